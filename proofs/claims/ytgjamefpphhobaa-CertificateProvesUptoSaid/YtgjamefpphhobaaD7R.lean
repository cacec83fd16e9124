/- Functions of the program as functions of values. -/
import Derived.Test.YtgjamefpphhobaaD7P
import Derived.Test.YtgjamefpphhobaaGs
namespace Go.Proofs.Ytgjamefpphhobaa.D7R
open Go.Proofs.Ytgjamefpphhobaa.KS Go.Proofs.Ytgjamefpphhobaa.D7P
open Go Go.Proofs.Ytgjamefpphhobaa.Eng Go.Proofs.Ytgjamefpphhobaa Go.RowKit
set_option linter.unusedSimpArgs false
set_option linter.unusedVariables false
set_option linter.unusedSectionVars false
set_option maxRecDepth 100000
open Nat renaming reduceAdd → nA, reduceMul → nB, reduceLT → nC, reduceLeDiff → nD, reduceEqDiff → nE, reduceSub → nF, reduceMod → nG, reduceDiv → nH
open Int renaming reduceToNat → iA
open List renaming map_append → lA, map_set → lB, map_replicate → lC, map_take → lD, map_drop → lE
attribute [local go_sem] e_api_Cert_is
attribute [local go_sem] List.length_map take_map_self eqB_is lessB_is List.length_append List.length_replicate List.length_set List.take_of_length_le


def ref04_small (a0 : Int) : Option Bool :=
  if (decide ((-1000000 : Int) ≤ a0)) then
  some (decide (a0 ≤ (1000000 : Int)))
else
  some false
set_option maxHeartbeats 2000000 in
theorem ref04_small_ok {a0 : Int} {r : Bool} (hr : ref04_small a0 = some r) : Meets Try.prog 72 [.c (.int .i64 a0)] (.c (.bool r)) := by
  unfold ref04_small at hr
  refine meetsV_of (X := true) Ty.mixed Try.func72 (by kernel_rfl) rfl (by kernel_rfl) (by simp) ?_; rw [Try.ntmps72, Try.results72]
  cases h1503 : (decide ((-1000000 : Int) ≤ a0)) with
  | true =>
    simp only [h1503, ↓reduceIte, Bool.false_eq_true] at hr
    simp only [go_sem, ↓reduceIte, reduceCtorEq, nA, nB, nC, nD, nE, nF, nG, nH, iA, *]
    cases hr
    simp (maxDischargeDepth := 40) only [go_sem, ↓reduceIte, reduceCtorEq, nA, nB, nC, nD, nE, nF, nG, nH, iA, cast0, cast1, lA, lB, lC, lD, lE, mapV_nil, *]
  | false =>
    simp only [h1503, ↓reduceIte, Bool.false_eq_true] at hr
    simp only [go_sem, ↓reduceIte, reduceCtorEq, nA, nB, nC, nD, nE, nF, nG, nH, iA, *]
    cases hr
    simp (maxDischargeDepth := 40) only [go_sem, ↓reduceIte, reduceCtorEq, nA, nB, nC, nD, nE, nF, nG, nH, iA, cast0, cast1, lA, lB, lC, lD, lE, mapV_nil, *]

def ref04_digit (a0 : Int) : Option Bool :=
  if (decide ((48 : Int) ≤ a0)) then
  some (decide (a0 ≤ (57 : Int)))
else
  some false
set_option maxHeartbeats 2000000 in
theorem ref04_digit_ok {a0 : Int} {r : Bool} (hr : ref04_digit a0 = some r) : Meets Try.prog 89 [.c (.int .u8 a0)] (.c (.bool r)) := by
  unfold ref04_digit at hr
  refine meetsV_of (X := true) Ty.mixed Try.func89 (by kernel_rfl) rfl (by kernel_rfl) (by simp) ?_; rw [Try.ntmps89, Try.results89]
  cases h1529 : (decide ((48 : Int) ≤ a0)) with
  | true =>
    simp only [h1529, ↓reduceIte, Bool.false_eq_true] at hr
    simp only [go_sem, ↓reduceIte, reduceCtorEq, nA, nB, nC, nD, nE, nF, nG, nH, iA, *]
    cases hr
    simp (maxDischargeDepth := 40) only [go_sem, ↓reduceIte, reduceCtorEq, nA, nB, nC, nD, nE, nF, nG, nH, iA, cast0, cast1, lA, lB, lC, lD, lE, mapV_nil, *]
  | false =>
    simp only [h1529, ↓reduceIte, Bool.false_eq_true] at hr
    simp only [go_sem, ↓reduceIte, reduceCtorEq, nA, nB, nC, nD, nE, nF, nG, nH, iA, *]
    cases hr
    simp (maxDischargeDepth := 40) only [go_sem, ↓reduceIte, reduceCtorEq, nA, nB, nC, nD, nE, nF, nG, nH, iA, cast0, cast1, lA, lB, lC, lD, lE, mapV_nil, *]

def ref04_letter (a0 : Int) : Option Bool :=
  if (decide ((97 : Int) ≤ a0)) then
  some (decide (a0 ≤ (122 : Int)))
else
  some false
set_option maxHeartbeats 2000000 in
theorem ref04_letter_ok {a0 : Int} {r : Bool} (hr : ref04_letter a0 = some r) : Meets Try.prog 90 [.c (.int .u8 a0)] (.c (.bool r)) := by
  unfold ref04_letter at hr
  refine meetsV_of (X := true) Ty.mixed Try.func90 (by kernel_rfl) rfl (by kernel_rfl) (by simp) ?_; rw [Try.ntmps90, Try.results90]
  cases h1563 : (decide ((97 : Int) ≤ a0)) with
  | true =>
    simp only [h1563, ↓reduceIte, Bool.false_eq_true] at hr
    simp only [go_sem, ↓reduceIte, reduceCtorEq, nA, nB, nC, nD, nE, nF, nG, nH, iA, *]
    cases hr
    simp (maxDischargeDepth := 40) only [go_sem, ↓reduceIte, reduceCtorEq, nA, nB, nC, nD, nE, nF, nG, nH, iA, cast0, cast1, lA, lB, lC, lD, lE, mapV_nil, *]
  | false =>
    simp only [h1563, ↓reduceIte, Bool.false_eq_true] at hr
    simp only [go_sem, ↓reduceIte, reduceCtorEq, nA, nB, nC, nD, nE, nF, nG, nH, iA, *]
    cases hr
    simp (maxDischargeDepth := 40) only [go_sem, ↓reduceIte, reduceCtorEq, nA, nB, nC, nD, nE, nF, nG, nH, iA, cast0, cast1, lA, lB, lC, lD, lE, mapV_nil, *]

def ref04_Name (a0 : ByteArray) : Option Bool :=
  if ((a0.size : Int) == (0 : Int)) then
  some false
else
  if (decide ((30 : Int) < (a0.size : Int))) then
    some false
  else
    (a0[0]?).bind fun x1516 =>
    if ((x1516.toNat : Int) == (95 : Int)) then
      if (decide ((a0.size : Int) < (2 : Int))) then
        some false
      else
        if (decide ((10 : Int) < (a0.size : Int))) then
          some false
        else
          (a0[1]?).bind fun x1523 =>
          if ((x1523.toNat : Int) == (48 : Int)) then
            some false
          else
            (whlC (R := Bool) ((1 : Int) : Int) fun s1544 =>
              if (decide (s1544 < (a0.size : Int))) then
                (idxB a0 s1544).bind fun x1554 =>
                (ref04_digit (x1554.toNat : Int)).bind fun y1558 =>
                if y1558 then
                  some (.nx (IntKind.i64.wrap (s1544 + (1 : Int))))
                else
                  some (.rt false)
              else
                some (.br s1544)).bind (Sum.elim (fun s1544 =>
              some true) some)
    else
      (forC (R := Bool) (a0.size) (() : Unit) fun k1589 s1588 =>
        (a0[k1589]?).bind fun x1597 =>
        (ref04_letter (x1597.toNat : Int)).bind fun y1601 =>
        if y1601 then
          some (.nx ())
        else
          if ((k1589 : Int) == (0 : Int)) then
            some (.rt false)
          else
            (ref04_digit (x1597.toNat : Int)).bind fun y1606 =>
            if y1606 then
              some (.nx ())
            else
              some (.rt false)).bind (Sum.elim (fun s1588 =>
        some true) some)
set_option maxHeartbeats 2000000 in
theorem ref04_Name_ok {a0 : ByteArray} {r : Bool} (hr : ref04_Name a0 = some r) : Meets Try.prog 73 [.c (.string a0)] (.c (.bool r)) := by
  unfold ref04_Name at hr
  refine meetsV_of (X := true) Ty.mixed Try.func73 (by kernel_rfl) rfl (by kernel_rfl) (by simp) ?_; rw [Try.ntmps73, Try.results73]
  cases h1514 : ((a0.size : Int) == (0 : Int)) with
  | true =>
    simp only [h1514, ↓reduceIte, Bool.false_eq_true] at hr
    simp only [go_sem, ↓reduceIte, reduceCtorEq, nA, nB, nC, nD, nE, nF, nG, nH, iA, *]
    cases hr
    simp (maxDischargeDepth := 40) only [go_sem, ↓reduceIte, reduceCtorEq, nA, nB, nC, nD, nE, nF, nG, nH, iA, cast0, cast1, lA, lB, lC, lD, lE, mapV_nil, *]
  | false =>
    simp only [h1514, ↓reduceIte, Bool.false_eq_true] at hr
    cases h1515 : (decide ((30 : Int) < (a0.size : Int))) with
    | true =>
      simp only [h1515, ↓reduceIte, Bool.false_eq_true] at hr
      simp only [go_sem, ↓reduceIte, reduceCtorEq, nA, nB, nC, nD, nE, nF, nG, nH, iA, *]
      cases hr
      simp (maxDischargeDepth := 40) only [go_sem, ↓reduceIte, reduceCtorEq, nA, nB, nC, nD, nE, nF, nG, nH, iA, cast0, cast1, lA, lB, lC, lD, lE, mapV_nil, *]
    | false =>
      simp only [h1515, ↓reduceIte, Bool.false_eq_true] at hr
      obtain ⟨x1516, h1517, r1518⟩ := bindS hr
      clear hr
      try dsimp only at r1518
      cases h1520 : ((x1516.toNat : Int) == (95 : Int)) with
      | true =>
        simp only [h1520, ↓reduceIte, Bool.false_eq_true] at r1518
        cases h1521 : (decide ((a0.size : Int) < (2 : Int))) with
        | true =>
          simp only [h1521, ↓reduceIte, Bool.false_eq_true] at r1518
          simp only [go_sem, ↓reduceIte, reduceCtorEq, nA, nB, nC, nD, nE, nF, nG, nH, iA, *]
          cases r1518
          simp (maxDischargeDepth := 40) only [go_sem, ↓reduceIte, reduceCtorEq, nA, nB, nC, nD, nE, nF, nG, nH, iA, cast0, cast1, lA, lB, lC, lD, lE, mapV_nil, *]
        | false =>
          simp only [h1521, ↓reduceIte, Bool.false_eq_true] at r1518
          cases h1522 : (decide ((10 : Int) < (a0.size : Int))) with
          | true =>
            simp only [h1522, ↓reduceIte, Bool.false_eq_true] at r1518
            simp only [go_sem, ↓reduceIte, reduceCtorEq, nA, nB, nC, nD, nE, nF, nG, nH, iA, *]
            cases r1518
            simp (maxDischargeDepth := 40) only [go_sem, ↓reduceIte, reduceCtorEq, nA, nB, nC, nD, nE, nF, nG, nH, iA, cast0, cast1, lA, lB, lC, lD, lE, mapV_nil, *]
          | false =>
            simp only [h1522, ↓reduceIte, Bool.false_eq_true] at r1518
            obtain ⟨x1523, h1524, r1525⟩ := bindS r1518
            clear r1518
            try dsimp only at r1525
            cases h1527 : ((x1523.toNat : Int) == (48 : Int)) with
            | true =>
              simp only [h1527, ↓reduceIte, Bool.false_eq_true] at r1525
              have g1 := (by decide : (0 : Int) ≤ 1)
              simp only [go_sem, ↓reduceIte, reduceCtorEq, nA, nB, nC, nD, nE, nF, nG, nH, iA, *]
              cases r1525
              simp (maxDischargeDepth := 40) only [go_sem, ↓reduceIte, reduceCtorEq, nA, nB, nC, nD, nE, nF, nG, nH, iA, cast0, cast1, lA, lB, lC, lD, lE, mapV_nil, *]
            | false =>
              simp only [h1527, ↓reduceIte, Bool.false_eq_true] at r1525
              have g2 := (by decide : (0 : Int) ≤ 1)
              simp only [go_sem, ↓reduceIte, reduceCtorEq, nA, nB, nC, nD, nE, nF, nG, nH, iA, *]
              refine loop_whl r1525 (fun s1544 => ⟨62, [(0, .c (.string a0)), (3, .c (.int .i64 s1544))], []⟩) ?_ ?_
              · try dsimp only
                refine LeS.pick [] rfl rfl ?_ ?_
                all_goals simp (maxDischargeDepth := 40) only [go_sem, ↓reduceIte, reduceCtorEq, nA, nB, nC, nD, nE, nF, nG, nH, iA, cast0, cast1, lA, lB, lC, lD, lE, mapV_nil, *]
              · intro s1544 qhc1547 hq1546 hc1547 Khc1547 hKhc1547
                try dsimp only at hq1546
                cases h1553 : (decide (s1544 < (a0.size : Int))) with
                | true =>
                  simp only [h1553, ↓reduceIte, Bool.false_eq_true] at hq1546
                  obtain ⟨x1554, h1555, r1556⟩ := bindS hq1546
                  clear hq1546
                  try dsimp only at r1556
                  obtain ⟨h1557, h1555⟩ := idxB_some h1555
                  simp only [go_sem, ↓reduceIte, reduceCtorEq, nA, nB, nC, nD, nE, nF, nG, nH, iA, *]
                  obtain ⟨y1558, h1559, r1560⟩ := bindS r1556
                  clear r1556
                  try dsimp only at r1560
                  cases h1561 : y1558 with
                  | true =>
                    simp only [h1561, ↓reduceIte, Bool.false_eq_true] at r1560
                    refine call_meets ((ref04_digit_ok h1559).le ?_) (by first | (simp only [go_sem, ↓reduceIte, reduceCtorEq, nA, nB, nC, nD, nE, nF, nG, nH, iA, *] <;> rfl) | rfl) ?_
                    · simp (maxDischargeDepth := 40) only [go_sem, ↓reduceIte, reduceCtorEq, nA, nB, nC, nD, nE, nF, nG, nH, iA, cast0, cast1, lA, lB, lC, lD, lE, mapV_nil, *]
                    simp only [go_sem, ↓reduceIte, reduceCtorEq, nA, nB, nC, nD, nE, nF, nG, nH, iA, *]
                    cases r1560
                    refine hKhc1547 _ _ rfl ?_
                    try dsimp only
                    refine LeS.pick [] rfl rfl ?_ ?_
                    all_goals simp (maxDischargeDepth := 40) only [go_sem, ↓reduceIte, reduceCtorEq, nA, nB, nC, nD, nE, nF, nG, nH, iA, cast0, cast1, lA, lB, lC, lD, lE, mapV_nil, *]
                  | false =>
                    simp only [h1561, ↓reduceIte, Bool.false_eq_true] at r1560
                    refine call_meets ((ref04_digit_ok h1559).le ?_) (by first | (simp only [go_sem, ↓reduceIte, reduceCtorEq, nA, nB, nC, nD, nE, nF, nG, nH, iA, *] <;> rfl) | rfl) ?_
                    · simp (maxDischargeDepth := 40) only [go_sem, ↓reduceIte, reduceCtorEq, nA, nB, nC, nD, nE, nF, nG, nH, iA, cast0, cast1, lA, lB, lC, lD, lE, mapV_nil, *]
                    simp only [go_sem, ↓reduceIte, reduceCtorEq, nA, nB, nC, nD, nE, nF, nG, nH, iA, *]
                    cases r1560
                    dsimp only [St.on, Sum.elim_inr] at hc1547
                    cases hc1547
                    simp (maxDischargeDepth := 40) only [go_sem, ↓reduceIte, reduceCtorEq, nA, nB, nC, nD, nE, nF, nG, nH, iA, cast0, cast1, lA, lB, lC, lD, lE, mapV_nil, *]
                | false =>
                  simp only [h1553, ↓reduceIte, Bool.false_eq_true] at hq1546
                  cases hq1546
                  dsimp only [St.on, Sum.elim_inl] at hc1547
                  simp only [go_sem, ↓reduceIte, reduceCtorEq, nA, nB, nC, nD, nE, nF, nG, nH, iA, *]
                  cases hc1547
                  simp (maxDischargeDepth := 40) only [go_sem, ↓reduceIte, reduceCtorEq, nA, nB, nC, nD, nE, nF, nG, nH, iA, cast0, cast1, lA, lB, lC, lD, lE, mapV_nil, *]
      | false =>
        simp only [h1520, ↓reduceIte, Bool.false_eq_true] at r1518
        simp only [go_sem, ↓reduceIte, reduceCtorEq, nA, nB, nC, nD, nE, nF, nG, nH, iA, *]
        refine loop_for r1518 (fun k1589 s1588 => ⟨62, [(0, .c (.string a0)), (4, .c (.int .i64 (k1589 : Int)))], []⟩) ?_ ?_ ?_
        · try dsimp only
          refine LeS.pick [] rfl rfl ?_ ?_
          all_goals simp (maxDischargeDepth := 40) only [go_sem, ↓reduceIte, reduceCtorEq, nA, nB, nC, nD, nE, nF, nG, nH, iA, cast0, cast1, lA, lB, lC, lD, lE, mapV_nil, *]
        · intro k1589 s1588 qhc1591 h1592 h1593 h1594 h1595 hq1590 hc1591 Khc1591 hKhc1591
          try dsimp only at hq1590
          obtain ⟨x1597, h1598, r1599⟩ := bindS hq1590
          clear hq1590
          try dsimp only at r1599
          simp only [go_sem, ↓reduceIte, reduceCtorEq, nA, nB, nC, nD, nE, nF, nG, nH, iA, *]
          obtain ⟨y1601, h1602, r1603⟩ := bindS r1599
          clear r1599
          try dsimp only at r1603
          cases h1604 : y1601 with
          | true =>
            simp only [h1604, ↓reduceIte, Bool.false_eq_true] at r1603
            refine call_meets ((ref04_letter_ok h1602).le ?_) (by first | (simp only [go_sem, ↓reduceIte, reduceCtorEq, nA, nB, nC, nD, nE, nF, nG, nH, iA, *] <;> rfl) | rfl) ?_
            · simp (maxDischargeDepth := 40) only [go_sem, ↓reduceIte, reduceCtorEq, nA, nB, nC, nD, nE, nF, nG, nH, iA, cast0, cast1, lA, lB, lC, lD, lE, mapV_nil, *]
            simp only [go_sem, ↓reduceIte, reduceCtorEq, nA, nB, nC, nD, nE, nF, nG, nH, iA, *]
            cases r1603
            refine hKhc1591 _ _ rfl ?_
            try dsimp only
            refine LeS.pick [] rfl rfl ?_ ?_
            all_goals simp (maxDischargeDepth := 40) only [go_sem, ↓reduceIte, reduceCtorEq, nA, nB, nC, nD, nE, nF, nG, nH, iA, cast0, cast1, lA, lB, lC, lD, lE, mapV_nil, *]
          | false =>
            simp only [h1604, ↓reduceIte, Bool.false_eq_true] at r1603
            cases h1605 : ((k1589 : Int) == (0 : Int)) with
            | true =>
              simp only [h1605, ↓reduceIte, Bool.false_eq_true] at r1603
              refine call_meets ((ref04_letter_ok h1602).le ?_) (by first | (simp only [go_sem, ↓reduceIte, reduceCtorEq, nA, nB, nC, nD, nE, nF, nG, nH, iA, *] <;> rfl) | rfl) ?_
              · simp (maxDischargeDepth := 40) only [go_sem, ↓reduceIte, reduceCtorEq, nA, nB, nC, nD, nE, nF, nG, nH, iA, cast0, cast1, lA, lB, lC, lD, lE, mapV_nil, *]
              simp only [go_sem, ↓reduceIte, reduceCtorEq, nA, nB, nC, nD, nE, nF, nG, nH, iA, *]
              cases r1603
              dsimp only [St.on, Sum.elim_inr] at hc1591
              cases hc1591
              simp (maxDischargeDepth := 40) only [go_sem, ↓reduceIte, reduceCtorEq, nA, nB, nC, nD, nE, nF, nG, nH, iA, cast0, cast1, lA, lB, lC, lD, lE, mapV_nil, *]
            | false =>
              simp only [h1605, ↓reduceIte, Bool.false_eq_true] at r1603
              refine call_meets ((ref04_letter_ok h1602).le ?_) (by first | (simp only [go_sem, ↓reduceIte, reduceCtorEq, nA, nB, nC, nD, nE, nF, nG, nH, iA, *] <;> rfl) | rfl) ?_
              · simp (maxDischargeDepth := 40) only [go_sem, ↓reduceIte, reduceCtorEq, nA, nB, nC, nD, nE, nF, nG, nH, iA, cast0, cast1, lA, lB, lC, lD, lE, mapV_nil, *]
              simp only [go_sem, ↓reduceIte, reduceCtorEq, nA, nB, nC, nD, nE, nF, nG, nH, iA, *]
              obtain ⟨y1606, h1607, r1608⟩ := bindS r1603
              clear r1603
              try dsimp only at r1608
              cases h1609 : y1606 with
              | true =>
                simp only [h1609, ↓reduceIte, Bool.false_eq_true] at r1608
                refine call_meets ((ref04_digit_ok h1607).le ?_) (by first | (simp only [go_sem, ↓reduceIte, reduceCtorEq, nA, nB, nC, nD, nE, nF, nG, nH, iA, *] <;> rfl) | rfl) ?_
                · simp (maxDischargeDepth := 40) only [go_sem, ↓reduceIte, reduceCtorEq, nA, nB, nC, nD, nE, nF, nG, nH, iA, cast0, cast1, lA, lB, lC, lD, lE, mapV_nil, *]
                simp only [go_sem, ↓reduceIte, reduceCtorEq, nA, nB, nC, nD, nE, nF, nG, nH, iA, *]
                cases r1608
                refine hKhc1591 _ _ rfl ?_
                try dsimp only
                refine LeS.pick [] rfl rfl ?_ ?_
                all_goals simp (maxDischargeDepth := 40) only [go_sem, ↓reduceIte, reduceCtorEq, nA, nB, nC, nD, nE, nF, nG, nH, iA, cast0, cast1, lA, lB, lC, lD, lE, mapV_nil, *]
              | false =>
                simp only [h1609, ↓reduceIte, Bool.false_eq_true] at r1608
                refine call_meets ((ref04_digit_ok h1607).le ?_) (by first | (simp only [go_sem, ↓reduceIte, reduceCtorEq, nA, nB, nC, nD, nE, nF, nG, nH, iA, *] <;> rfl) | rfl) ?_
                · simp (maxDischargeDepth := 40) only [go_sem, ↓reduceIte, reduceCtorEq, nA, nB, nC, nD, nE, nF, nG, nH, iA, cast0, cast1, lA, lB, lC, lD, lE, mapV_nil, *]
                simp only [go_sem, ↓reduceIte, reduceCtorEq, nA, nB, nC, nD, nE, nF, nG, nH, iA, *]
                cases r1608
                dsimp only [St.on, Sum.elim_inr] at hc1591
                cases hc1591
                simp (maxDischargeDepth := 40) only [go_sem, ↓reduceIte, reduceCtorEq, nA, nB, nC, nD, nE, nF, nG, nH, iA, cast0, cast1, lA, lB, lC, lD, lE, mapV_nil, *]
        · clear r1518
          intro s1588 r1518 h1592 h1596 Khc1591
          dsimp only [Sum.elim_inl] at r1518
          simp only [go_sem, ↓reduceIte, reduceCtorEq, nA, nB, nC, nD, nE, nF, nG, nH, iA, *]
          cases r1518
          simp (maxDischargeDepth := 40) only [go_sem, ↓reduceIte, reduceCtorEq, nA, nB, nC, nD, nE, nF, nG, nH, iA, cast0, cast1, lA, lB, lC, lD, lE, mapV_nil, *]

def ref04_Valid (a0 : Int × (List (ByteArray × Int))) : Option Bool :=
  (ref04_small a0.1).bind fun y1504 =>
if y1504 then
  if (decide ((12 : Int) < ((a0.2.length : Nat) : Int))) then
    some false
  else
    (forC (R := Bool) (a0.2.length) (() : Unit) fun k1647 s1646 =>
      (a0.2[k1647]?).bind fun x1655 =>
      (ref04_Name x1655.1).bind fun y1659 =>
      if y1659 then
        if (x1655.2 == (0 : Int)) then
          some (.rt false)
        else
          (ref04_small x1655.2).bind fun y1664 =>
          if y1664 then
            if (decide ((0 : Int) < (k1647 : Int))) then
              (idxO a0.2 (IntKind.i64.wrap ((k1647 : Int) - (1 : Int)))).bind fun x1669 =>
              if (lessB x1669.1 x1655.1) then
                some (.nx ())
              else
                some (.rt false)
            else
              some (.nx ())
          else
            some (.rt false)
      else
        some (.rt false)).bind (Sum.elim (fun s1646 =>
      some true) some)
else
  some false
set_option maxHeartbeats 2000000 in
theorem ref04_Valid_ok {a0 : Int × (List (ByteArray × Int))} {r : Bool} (hr : ref04_Valid a0 = some r) : Meets Try.prog 47 [.agg [.c (.int .i64 a0.1), .sl false 2 (a0.2.map e_api_Coef)]] (.c (.bool r)) := by
  unfold ref04_Valid at hr
  refine meetsV_of (X := true) Ty.mixed Try.func47 (by kernel_rfl) rfl (by kernel_rfl) (by simp) ?_; rw [Try.ntmps47, Try.results47]
  simp only [go_sem, ↓reduceIte, reduceCtorEq, nA, nB, nC, nD, nE, nF, nG, nH, iA, *]
  obtain ⟨y1504, h1505, r1506⟩ := bindS hr
  clear hr
  try dsimp only at r1506
  cases h1507 : y1504 with
  | true =>
    simp only [h1507, ↓reduceIte, Bool.false_eq_true] at r1506
    cases h1508 : (decide ((12 : Int) < ((a0.2.length : Nat) : Int))) with
    | true =>
      simp only [h1508, ↓reduceIte, Bool.false_eq_true] at r1506
      refine call_meets ((ref04_small_ok h1505).le ?_) (by first | (simp only [go_sem, ↓reduceIte, reduceCtorEq, nA, nB, nC, nD, nE, nF, nG, nH, iA, *] <;> rfl) | rfl) ?_
      · simp (maxDischargeDepth := 40) only [go_sem, ↓reduceIte, reduceCtorEq, nA, nB, nC, nD, nE, nF, nG, nH, iA, cast0, cast1, lA, lB, lC, lD, lE, mapV_nil, *]
      simp only [go_sem, ↓reduceIte, reduceCtorEq, nA, nB, nC, nD, nE, nF, nG, nH, iA, *]
      cases r1506
      simp (maxDischargeDepth := 40) only [go_sem, ↓reduceIte, reduceCtorEq, nA, nB, nC, nD, nE, nF, nG, nH, iA, cast0, cast1, lA, lB, lC, lD, lE, mapV_nil, *]
    | false =>
      simp only [h1508, ↓reduceIte, Bool.false_eq_true] at r1506
      refine call_meets ((ref04_small_ok h1505).le ?_) (by first | (simp only [go_sem, ↓reduceIte, reduceCtorEq, nA, nB, nC, nD, nE, nF, nG, nH, iA, *] <;> rfl) | rfl) ?_
      · simp (maxDischargeDepth := 40) only [go_sem, ↓reduceIte, reduceCtorEq, nA, nB, nC, nD, nE, nF, nG, nH, iA, cast0, cast1, lA, lB, lC, lD, lE, mapV_nil, *]
      simp only [go_sem, ↓reduceIte, reduceCtorEq, nA, nB, nC, nD, nE, nF, nG, nH, iA, *]
      refine loop_for r1506 (fun k1647 s1646 => ⟨58, [(1, .ptr 0 0), (3, .c (.int .i64 (k1647 : Int)))], [some (.var 26 [.c (.int .i64 a0.1), .sl false 2 (a0.2.map e_api_Coef)])]⟩) ?_ ?_ ?_
      · try dsimp only
        refine LeS.pick [some 0] rfl rfl ?_ ?_
        all_goals simp (maxDischargeDepth := 40) only [go_sem, ↓reduceIte, reduceCtorEq, nA, nB, nC, nD, nE, nF, nG, nH, iA, cast0, cast1, lA, lB, lC, lD, lE, mapV_nil, *]
      · intro k1647 s1646 qhc1649 h1650 h1651 h1652 h1653 hq1648 hc1649 Khc1649 hKhc1649
        try dsimp only at hq1648
        obtain ⟨x1655, h1656, r1657⟩ := bindS hq1648
        clear hq1648
        try dsimp only at r1657
        have g3 := get_map e_api_Coef h1656
        simp only [go_sem, ↓reduceIte, reduceCtorEq, nA, nB, nC, nD, nE, nF, nG, nH, iA, *]
        refine drawS_tail (by kernel_rfl) ?_
        simp only [go_sem, ↓reduceIte, reduceCtorEq, nA, nB, nC, nD, nE, nF, nG, nH, iA, *]
        obtain ⟨y1659, h1660, r1661⟩ := bindS r1657
        clear r1657
        try dsimp only at r1661
        cases h1662 : y1659 with
        | true =>
          simp only [h1662, ↓reduceIte, Bool.false_eq_true] at r1661
          cases h1663 : (x1655.2 == (0 : Int)) with
          | true =>
            simp only [h1663, ↓reduceIte, Bool.false_eq_true] at r1661
            refine calld_meets ((ref04_Name_ok h1660).le ?_) (by first | (simp only [go_sem, ↓reduceIte, reduceCtorEq, nA, nB, nC, nD, nE, nF, nG, nH, iA, *] <;> rfl) | rfl) (by simp only [go_sem, ↓reduceIte, reduceCtorEq, nA, nB, nC, nD, nE, nF, nG, nH, iA, *]) ?_
            · simp (maxDischargeDepth := 40) only [go_sem, ↓reduceIte, reduceCtorEq, nA, nB, nC, nD, nE, nF, nG, nH, iA, cast0, cast1, lA, lB, lC, lD, lE, mapV_nil, *]
            simp only [go_sem, ↓reduceIte, reduceCtorEq, nA, nB, nC, nD, nE, nF, nG, nH, iA, *]
            cases r1661
            dsimp only [St.on, Sum.elim_inr] at hc1649
            cases hc1649
            simp (maxDischargeDepth := 40) only [go_sem, ↓reduceIte, reduceCtorEq, nA, nB, nC, nD, nE, nF, nG, nH, iA, cast0, cast1, lA, lB, lC, lD, lE, mapV_nil, *]
          | false =>
            simp only [h1663, ↓reduceIte, Bool.false_eq_true] at r1661
            refine calld_meets ((ref04_Name_ok h1660).le ?_) (by first | (simp only [go_sem, ↓reduceIte, reduceCtorEq, nA, nB, nC, nD, nE, nF, nG, nH, iA, *] <;> rfl) | rfl) (by simp only [go_sem, ↓reduceIte, reduceCtorEq, nA, nB, nC, nD, nE, nF, nG, nH, iA, *]) ?_
            · simp (maxDischargeDepth := 40) only [go_sem, ↓reduceIte, reduceCtorEq, nA, nB, nC, nD, nE, nF, nG, nH, iA, cast0, cast1, lA, lB, lC, lD, lE, mapV_nil, *]
            simp only [go_sem, ↓reduceIte, reduceCtorEq, nA, nB, nC, nD, nE, nF, nG, nH, iA, *]
            obtain ⟨y1664, h1665, r1666⟩ := bindS r1661
            clear r1661
            try dsimp only at r1666
            cases h1667 : y1664 with
            | true =>
              simp only [h1667, ↓reduceIte, Bool.false_eq_true] at r1666
              cases h1668 : (decide ((0 : Int) < (k1647 : Int))) with
              | true =>
                simp only [h1668, ↓reduceIte, Bool.false_eq_true] at r1666
                obtain ⟨x1669, h1670, r1671⟩ := bindS r1666
                clear r1666
                try dsimp only at r1671
                obtain ⟨h1672, _, h1670⟩ := idxO_some h1670
                cases h1673 : (lessB x1669.1 x1655.1) with
                | true =>
                  simp only [h1673, ↓reduceIte, Bool.false_eq_true] at r1671
                  have g4 := get_map e_api_Coef h1670
                  refine calld_meets ((ref04_small_ok h1665).le ?_) (by first | (simp only [go_sem, ↓reduceIte, reduceCtorEq, nA, nB, nC, nD, nE, nF, nG, nH, iA, *] <;> rfl) | rfl) (by simp only [go_sem, ↓reduceIte, reduceCtorEq, nA, nB, nC, nD, nE, nF, nG, nH, iA, *]) ?_
                  · simp (maxDischargeDepth := 40) only [go_sem, ↓reduceIte, reduceCtorEq, nA, nB, nC, nD, nE, nF, nG, nH, iA, cast0, cast1, lA, lB, lC, lD, lE, mapV_nil, *]
                  simp only [go_sem, ↓reduceIte, reduceCtorEq, nA, nB, nC, nD, nE, nF, nG, nH, iA, *]
                  cases r1671
                  refine hKhc1649 _ _ rfl ?_
                  try dsimp only
                  refine LeS.pick [some 0] rfl rfl ?_ ?_
                  all_goals simp (maxDischargeDepth := 40) only [go_sem, ↓reduceIte, reduceCtorEq, nA, nB, nC, nD, nE, nF, nG, nH, iA, cast0, cast1, lA, lB, lC, lD, lE, mapV_nil, *]
                | false =>
                  simp only [h1673, ↓reduceIte, Bool.false_eq_true] at r1671
                  have g5 := get_map e_api_Coef h1670
                  refine calld_meets ((ref04_small_ok h1665).le ?_) (by first | (simp only [go_sem, ↓reduceIte, reduceCtorEq, nA, nB, nC, nD, nE, nF, nG, nH, iA, *] <;> rfl) | rfl) (by simp only [go_sem, ↓reduceIte, reduceCtorEq, nA, nB, nC, nD, nE, nF, nG, nH, iA, *]) ?_
                  · simp (maxDischargeDepth := 40) only [go_sem, ↓reduceIte, reduceCtorEq, nA, nB, nC, nD, nE, nF, nG, nH, iA, cast0, cast1, lA, lB, lC, lD, lE, mapV_nil, *]
                  simp only [go_sem, ↓reduceIte, reduceCtorEq, nA, nB, nC, nD, nE, nF, nG, nH, iA, *]
                  cases r1671
                  dsimp only [St.on, Sum.elim_inr] at hc1649
                  cases hc1649
                  simp (maxDischargeDepth := 40) only [go_sem, ↓reduceIte, reduceCtorEq, nA, nB, nC, nD, nE, nF, nG, nH, iA, cast0, cast1, lA, lB, lC, lD, lE, mapV_nil, *]
              | false =>
                simp only [h1668, ↓reduceIte, Bool.false_eq_true] at r1666
                refine calld_meets ((ref04_small_ok h1665).le ?_) (by first | (simp only [go_sem, ↓reduceIte, reduceCtorEq, nA, nB, nC, nD, nE, nF, nG, nH, iA, *] <;> rfl) | rfl) (by simp only [go_sem, ↓reduceIte, reduceCtorEq, nA, nB, nC, nD, nE, nF, nG, nH, iA, *]) ?_
                · simp (maxDischargeDepth := 40) only [go_sem, ↓reduceIte, reduceCtorEq, nA, nB, nC, nD, nE, nF, nG, nH, iA, cast0, cast1, lA, lB, lC, lD, lE, mapV_nil, *]
                simp only [go_sem, ↓reduceIte, reduceCtorEq, nA, nB, nC, nD, nE, nF, nG, nH, iA, *]
                cases r1666
                refine hKhc1649 _ _ rfl ?_
                try dsimp only
                refine LeS.pick [some 0] rfl rfl ?_ ?_
                all_goals simp (maxDischargeDepth := 40) only [go_sem, ↓reduceIte, reduceCtorEq, nA, nB, nC, nD, nE, nF, nG, nH, iA, cast0, cast1, lA, lB, lC, lD, lE, mapV_nil, *]
            | false =>
              simp only [h1667, ↓reduceIte, Bool.false_eq_true] at r1666
              refine calld_meets ((ref04_small_ok h1665).le ?_) (by first | (simp only [go_sem, ↓reduceIte, reduceCtorEq, nA, nB, nC, nD, nE, nF, nG, nH, iA, *] <;> rfl) | rfl) (by simp only [go_sem, ↓reduceIte, reduceCtorEq, nA, nB, nC, nD, nE, nF, nG, nH, iA, *]) ?_
              · simp (maxDischargeDepth := 40) only [go_sem, ↓reduceIte, reduceCtorEq, nA, nB, nC, nD, nE, nF, nG, nH, iA, cast0, cast1, lA, lB, lC, lD, lE, mapV_nil, *]
              simp only [go_sem, ↓reduceIte, reduceCtorEq, nA, nB, nC, nD, nE, nF, nG, nH, iA, *]
              cases r1666
              dsimp only [St.on, Sum.elim_inr] at hc1649
              cases hc1649
              simp (maxDischargeDepth := 40) only [go_sem, ↓reduceIte, reduceCtorEq, nA, nB, nC, nD, nE, nF, nG, nH, iA, cast0, cast1, lA, lB, lC, lD, lE, mapV_nil, *]
        | false =>
          simp only [h1662, ↓reduceIte, Bool.false_eq_true] at r1661
          refine calld_meets ((ref04_Name_ok h1660).le ?_) (by first | (simp only [go_sem, ↓reduceIte, reduceCtorEq, nA, nB, nC, nD, nE, nF, nG, nH, iA, *] <;> rfl) | rfl) (by simp only [go_sem, ↓reduceIte, reduceCtorEq, nA, nB, nC, nD, nE, nF, nG, nH, iA, *]) ?_
          · simp (maxDischargeDepth := 40) only [go_sem, ↓reduceIte, reduceCtorEq, nA, nB, nC, nD, nE, nF, nG, nH, iA, cast0, cast1, lA, lB, lC, lD, lE, mapV_nil, *]
          simp only [go_sem, ↓reduceIte, reduceCtorEq, nA, nB, nC, nD, nE, nF, nG, nH, iA, *]
          cases r1661
          dsimp only [St.on, Sum.elim_inr] at hc1649
          cases hc1649
          simp (maxDischargeDepth := 40) only [go_sem, ↓reduceIte, reduceCtorEq, nA, nB, nC, nD, nE, nF, nG, nH, iA, cast0, cast1, lA, lB, lC, lD, lE, mapV_nil, *]
      · clear r1506
        intro s1646 r1506 h1650 h1654 Khc1649
        dsimp only [Sum.elim_inl] at r1506
        simp only [go_sem, ↓reduceIte, reduceCtorEq, nA, nB, nC, nD, nE, nF, nG, nH, iA, *]
        cases r1506
        simp (maxDischargeDepth := 40) only [go_sem, ↓reduceIte, reduceCtorEq, nA, nB, nC, nD, nE, nF, nG, nH, iA, cast0, cast1, lA, lB, lC, lD, lE, mapV_nil, *]
  | false =>
    simp only [h1507, ↓reduceIte, Bool.false_eq_true] at r1506
    refine call_meets ((ref04_small_ok h1505).le ?_) (by first | (simp only [go_sem, ↓reduceIte, reduceCtorEq, nA, nB, nC, nD, nE, nF, nG, nH, iA, *] <;> rfl) | rfl) ?_
    · simp (maxDischargeDepth := 40) only [go_sem, ↓reduceIte, reduceCtorEq, nA, nB, nC, nD, nE, nF, nG, nH, iA, cast0, cast1, lA, lB, lC, lD, lE, mapV_nil, *]
    simp only [go_sem, ↓reduceIte, reduceCtorEq, nA, nB, nC, nD, nE, nF, nG, nH, iA, *]
    cases r1506
    simp (maxDischargeDepth := 40) only [go_sem, ↓reduceIte, reduceCtorEq, nA, nB, nC, nD, nE, nF, nG, nH, iA, cast0, cast1, lA, lB, lC, lD, lE, mapV_nil, *]

def ref07_Valid (a0 : List (Bool × (Int × (List (ByteArray × Int))))) : Option Bool :=
  (forC (R := Bool) (a0.length) (() : Unit) fun k1689 s1688 =>
  (a0[k1689]?).bind fun x1697 =>
  (ref04_Valid x1697.2).bind fun y1701 =>
  if y1701 then
    some (.nx ())
  else
    some (.rt false)).bind (Sum.elim (fun s1688 =>
  some true) some)
set_option maxHeartbeats 2000000 in
theorem ref07_Valid_ok {a0 : List (Bool × (Int × (List (ByteArray × Int))))} {r : Bool} (hr : ref07_Valid a0 = some r) : Meets Try.prog 21 [.sl false 3 (a0.map e_api_Fact)] (.c (.bool r)) := by
  unfold ref07_Valid at hr
  refine meetsV_of (X := true) Ty.mixed Try.func21 (by kernel_rfl) rfl (by kernel_rfl) (by simp) ?_; rw [Try.ntmps21, Try.results21]
  simp only [go_sem, ↓reduceIte, reduceCtorEq, nA, nB, nC, nD, nE, nF, nG, nH, iA, *]
  refine loop_for hr (fun k1689 s1688 => ⟨17, [(0, .sl false 3 (a0.map e_api_Fact)), (3, .c (.int .i64 (k1689 : Int)))], []⟩) ?_ ?_ ?_
  · try dsimp only
    refine LeS.pick [] rfl rfl ?_ ?_
    all_goals simp (maxDischargeDepth := 40) only [go_sem, ↓reduceIte, reduceCtorEq, nA, nB, nC, nD, nE, nF, nG, nH, iA, cast0, cast1, lA, lB, lC, lD, lE, mapV_nil, *]
  · intro k1689 s1688 qhc1691 h1692 h1693 h1694 h1695 hq1690 hc1691 Khc1691 hKhc1691
    try dsimp only at hq1690
    obtain ⟨x1697, h1698, r1699⟩ := bindS hq1690
    clear hq1690
    try dsimp only at r1699
    have g6 := get_map e_api_Fact h1698
    simp only [go_sem, ↓reduceIte, reduceCtorEq, nA, nB, nC, nD, nE, nF, nG, nH, iA, *]
    obtain ⟨y1701, h1702, r1703⟩ := bindS r1699
    clear r1699
    try dsimp only at r1703
    cases h1704 : y1701 with
    | true =>
      simp only [h1704, ↓reduceIte, Bool.false_eq_true] at r1703
      refine call_meets ((ref04_Valid_ok h1702).le ?_) (by first | (simp only [go_sem, ↓reduceIte, reduceCtorEq, nA, nB, nC, nD, nE, nF, nG, nH, iA, *] <;> rfl) | rfl) ?_
      · simp (maxDischargeDepth := 40) only [go_sem, ↓reduceIte, reduceCtorEq, nA, nB, nC, nD, nE, nF, nG, nH, iA, cast0, cast1, lA, lB, lC, lD, lE, mapV_nil, *]
      simp only [go_sem, ↓reduceIte, reduceCtorEq, nA, nB, nC, nD, nE, nF, nG, nH, iA, *]
      cases r1703
      refine hKhc1691 _ _ rfl ?_
      try dsimp only
      refine LeS.pick [] rfl rfl ?_ ?_
      all_goals simp (maxDischargeDepth := 40) only [go_sem, ↓reduceIte, reduceCtorEq, nA, nB, nC, nD, nE, nF, nG, nH, iA, cast0, cast1, lA, lB, lC, lD, lE, mapV_nil, *]
    | false =>
      simp only [h1704, ↓reduceIte, Bool.false_eq_true] at r1703
      refine call_meets ((ref04_Valid_ok h1702).le ?_) (by first | (simp only [go_sem, ↓reduceIte, reduceCtorEq, nA, nB, nC, nD, nE, nF, nG, nH, iA, *] <;> rfl) | rfl) ?_
      · simp (maxDischargeDepth := 40) only [go_sem, ↓reduceIte, reduceCtorEq, nA, nB, nC, nD, nE, nF, nG, nH, iA, cast0, cast1, lA, lB, lC, lD, lE, mapV_nil, *]
      simp only [go_sem, ↓reduceIte, reduceCtorEq, nA, nB, nC, nD, nE, nF, nG, nH, iA, *]
      cases r1703
      dsimp only [St.on, Sum.elim_inr] at hc1691
      cases hc1691
      simp (maxDischargeDepth := 40) only [go_sem, ↓reduceIte, reduceCtorEq, nA, nB, nC, nD, nE, nF, nG, nH, iA, cast0, cast1, lA, lB, lC, lD, lE, mapV_nil, *]
  · clear hr
    intro s1688 hr h1692 h1696 Khc1691
    dsimp only [Sum.elim_inl] at hr
    simp only [go_sem, ↓reduceIte, reduceCtorEq, nA, nB, nC, nD, nE, nF, nG, nH, iA, *]
    cases hr
    simp (maxDischargeDepth := 40) only [go_sem, ↓reduceIte, reduceCtorEq, nA, nB, nC, nD, nE, nF, nG, nH, iA, cast0, cast1, lA, lB, lC, lD, lE, mapV_nil, *]

def ref07_Size : Nat → T_api_Cert → Option Int
  | 0, _ => none
  | fuel + 1, a0 =>
  (forC (R := Int) (a0.f3.length) ((1 : Int) : Int) fun k1734 s1733 =>
  (a0.f3[k1734]?).bind fun x1742 =>
  (ref07_Size fuel x1742).bind fun y1746 =>
  some (.nx (IntKind.i64.wrap (s1733 + y1746)))).bind (Sum.elim (fun s1733 =>
  some s1733) some)
set_option maxHeartbeats 2000000 in
theorem ref07_Size_all (fuel : Nat) : ∀ {a0 : T_api_Cert} {r : Int}, ref07_Size fuel a0 = some r → Meets Try.prog 16 [.agg [.c (.int .i64 a0.f0), .sl false 1 (a0.f1.map e_int), .c (.int .i64 a0.f2.1), .sl false 2 (a0.f2.2.map e_api_Coef), .sl false 5 (a0.f3.map e_api_Cert)]] (.c (.int .i64 r)) := by
  induction fuel with
  | zero =>
    · intro a0 r hr
      rw [ref07_Size] at hr
      cases hr
  | succ fuel ih =>
    have ih_ref07_Size := @ih
    · intro a0 r hr
      rw [ref07_Size] at hr
      refine meetsV_of (X := true) Ty.mixed Try.func16 (by kernel_rfl) rfl (by kernel_rfl) (by simp) ?_; rw [Try.ntmps16, Try.results16]
      simp only [go_sem, ↓reduceIte, reduceCtorEq, nA, nB, nC, nD, nE, nF, nG, nH, iA, *]
      refine loop_for hr (fun k1734 s1733 => ⟨21, [(1, .ptr 0 0), (3, .c (.int .i64 s1733)), (4, .c (.int .i64 (k1734 : Int)))], [some (.var 29 [.c (.int .i64 a0.f0), .sl false 1 (a0.f1.map e_int), .c (.int .i64 a0.f2.1), .sl false 2 (a0.f2.2.map e_api_Coef), .sl false 5 (a0.f3.map e_api_Cert)])]⟩) ?_ ?_ ?_
      · try dsimp only
        refine LeS.pick [some 0] rfl rfl ?_ ?_
        all_goals simp (maxDischargeDepth := 40) only [go_sem, ↓reduceIte, reduceCtorEq, nA, nB, nC, nD, nE, nF, nG, nH, iA, cast0, cast1, lA, lB, lC, lD, lE, mapV_nil, *]
      · intro k1734 s1733 qhc1736 h1737 h1738 h1739 h1740 hq1735 hc1736 Khc1736 hKhc1736
        try dsimp only at hq1735
        obtain ⟨x1742, h1743, r1744⟩ := bindS hq1735
        clear hq1735
        try dsimp only at r1744
        have g7 := get_map e_api_Cert h1743
        simp only [go_sem, ↓reduceIte, reduceCtorEq, nA, nB, nC, nD, nE, nF, nG, nH, iA, *]
        obtain ⟨y1746, h1747, r1748⟩ := bindS r1744
        clear r1744
        try dsimp only at r1748
        refine call_meets ((ih_ref07_Size h1747).le ?_) (by first | (simp only [go_sem, ↓reduceIte, reduceCtorEq, nA, nB, nC, nD, nE, nF, nG, nH, iA, *] <;> rfl) | rfl) ?_
        · simp (maxDischargeDepth := 40) only [go_sem, ↓reduceIte, reduceCtorEq, nA, nB, nC, nD, nE, nF, nG, nH, iA, cast0, cast1, lA, lB, lC, lD, lE, mapV_nil, *]
        simp only [go_sem, ↓reduceIte, reduceCtorEq, nA, nB, nC, nD, nE, nF, nG, nH, iA, *]
        cases r1748
        refine hKhc1736 _ _ rfl ?_
        try dsimp only
        refine LeS.pick [some 0] rfl rfl ?_ ?_
        all_goals simp (maxDischargeDepth := 40) only [go_sem, ↓reduceIte, reduceCtorEq, nA, nB, nC, nD, nE, nF, nG, nH, iA, cast0, cast1, lA, lB, lC, lD, lE, mapV_nil, *]
      · clear hr
        intro s1733 hr h1737 h1741 Khc1736
        dsimp only [Sum.elim_inl] at hr
        simp only [go_sem, ↓reduceIte, reduceCtorEq, nA, nB, nC, nD, nE, nF, nG, nH, iA, *]
        cases hr
        simp (maxDischargeDepth := 40) only [go_sem, ↓reduceIte, reduceCtorEq, nA, nB, nC, nD, nE, nF, nG, nH, iA, cast0, cast1, lA, lB, lC, lD, lE, mapV_nil, *]
theorem ref07_Size_ok {fuel : Nat} : ∀ {a0 : T_api_Cert} {r : Int}, ref07_Size fuel a0 = some r → Meets Try.prog 16 [.agg [.c (.int .i64 a0.f0), .sl false 1 (a0.f1.map e_int), .c (.int .i64 a0.f2.1), .sl false 2 (a0.f2.2.map e_api_Coef), .sl false 5 (a0.f3.map e_api_Cert)]] (.c (.int .i64 r)) := ref07_Size_all fuel

def ref04_Compare (a0 : Int × (List (ByteArray × Int))) (a1 : Int × (List (ByteArray × Int))) : Option Int :=
  (whlC (R := Int) ((0 : Int) : Int) fun s1783 =>
  if (decide (s1783 < ((a0.2.length : Nat) : Int))) then
    if (decide (s1783 < ((a1.2.length : Nat) : Int))) then
      (idxO a0.2 s1783).bind fun x1794 =>
      (idxO a1.2 s1783).bind fun x1798 =>
      if (lessB x1794.1 x1798.1) then
        some (.rt (-1 : Int))
      else
        if (eqB x1794.1 x1798.1) then
          if (decide (x1794.2 < x1798.2)) then
            some (.rt (-1 : Int))
          else
            if (x1794.2 == x1798.2) then
              some (.nx (IntKind.i64.wrap (s1783 + (1 : Int))))
            else
              some (.rt (1 : Int))
        else
          some (.rt (1 : Int))
    else
      some (.br s1783)
  else
    some (.br s1783)).bind (Sum.elim (fun s1783 =>
  if (decide (((a0.2.length : Nat) : Int) < ((a1.2.length : Nat) : Int))) then
    some (-1 : Int)
  else
    if (((a0.2.length : Nat) : Int) == ((a1.2.length : Nat) : Int)) then
      if (decide (a0.1 < a1.1)) then
        some (-1 : Int)
      else
        if (decide (((a1.2.length : Nat) : Int) < ((a0.2.length : Nat) : Int))) then
          some (1 : Int)
        else
          if (decide (a1.1 < a0.1)) then
            some (1 : Int)
          else
            some (0 : Int)
    else
      if (decide (((a1.2.length : Nat) : Int) < ((a0.2.length : Nat) : Int))) then
        some (1 : Int)
      else
        if (decide (a1.1 < a0.1)) then
          some (1 : Int)
        else
          some (0 : Int)) some)
set_option maxHeartbeats 2000000 in
theorem ref04_Compare_ok {a0 : Int × (List (ByteArray × Int))} {a1 : Int × (List (ByteArray × Int))} {r : Int} (hr : ref04_Compare a0 a1 = some r) : Meets Try.prog 48 [.agg [.c (.int .i64 a0.1), .sl false 2 (a0.2.map e_api_Coef)], .agg [.c (.int .i64 a1.1), .sl false 2 (a1.2.map e_api_Coef)]] (.c (.int .i64 r)) := by
  unfold ref04_Compare at hr
  refine meetsV_of (X := true) Ty.mixed Try.func48 (by kernel_rfl) rfl (by kernel_rfl) (by simp) ?_; rw [Try.ntmps48, Try.results48]
  simp only [go_sem, ↓reduceIte, reduceCtorEq, nA, nB, nC, nD, nE, nF, nG, nH, iA, *]
  refine loop_whl hr (fun s1783 => ⟨95, [(2, .ptr 0 0), (3, .ptr 1 0), (5, .c (.int .i64 s1783))], [some (.var 26 [.c (.int .i64 a0.1), .sl false 2 (a0.2.map e_api_Coef)]), some (.var 26 [.c (.int .i64 a1.1), .sl false 2 (a1.2.map e_api_Coef)])]⟩) ?_ ?_
  · try dsimp only
    refine LeS.pick [some 0, some 1] rfl rfl ?_ ?_
    all_goals simp (maxDischargeDepth := 40) only [go_sem, ↓reduceIte, reduceCtorEq, nA, nB, nC, nD, nE, nF, nG, nH, iA, cast0, cast1, lA, lB, lC, lD, lE, mapV_nil, *]
  · intro s1783 qhc1786 hq1785 hc1786 Khc1786 hKhc1786
    try dsimp only at hq1785
    cases h1792 : (decide (s1783 < ((a0.2.length : Nat) : Int))) with
    | true =>
      simp only [h1792, ↓reduceIte, Bool.false_eq_true] at hq1785
      cases h1793 : (decide (s1783 < ((a1.2.length : Nat) : Int))) with
      | true =>
        simp only [h1793, ↓reduceIte, Bool.false_eq_true] at hq1785
        simp only [go_sem, ↓reduceIte, reduceCtorEq, nA, nB, nC, nD, nE, nF, nG, nH, iA, *]
        obtain ⟨x1794, h1795, r1796⟩ := bindS hq1785
        clear hq1785
        try dsimp only at r1796
        obtain ⟨h1797, _, h1795⟩ := idxO_some h1795
        obtain ⟨x1798, h1799, r1800⟩ := bindS r1796
        clear r1796
        try dsimp only at r1800
        obtain ⟨h1801, _, h1799⟩ := idxO_some h1799
        refine drawS_wild ?_
        have g8 := get_map e_api_Coef h1795
        have g9 := get_map e_api_Coef h1799
        simp (config := {maxSteps := 2000000}) only [go_sem, ↓reduceIte, reduceCtorEq, nA, nB, nC, nD, nE, nF, nG, nH, iA, *]
        repeat refine ⟨by first | omega | (simp only [List.length_append, List.length_cons, List.length_nil, List.length_map, Nat.zero_add] at *; omega), ?_⟩
        first | refine ⟨by kernel_rfl, ?_⟩ | skip
        cases h1802 : (lessB x1794.1 x1798.1) with
        | true =>
          simp only [h1802, ↓reduceIte, Bool.false_eq_true] at r1800
          try simp only [go_sem, ↓reduceIte, reduceCtorEq, nA, nB, nC, nD, nE, nF, nG, nH, iA, *]
          cases r1800
          dsimp only [St.on, Sum.elim_inr] at hc1786
          cases hc1786
          simp (maxDischargeDepth := 40) only [go_sem, ↓reduceIte, reduceCtorEq, nA, nB, nC, nD, nE, nF, nG, nH, iA, cast0, cast1, lA, lB, lC, lD, lE, mapV_nil, *]
        | false =>
          simp only [h1802, ↓reduceIte, Bool.false_eq_true] at r1800
          cases h1803 : (eqB x1794.1 x1798.1) with
          | true =>
            simp only [h1803, ↓reduceIte, Bool.false_eq_true] at r1800
            cases h1804 : (decide (x1794.2 < x1798.2)) with
            | true =>
              simp only [h1804, ↓reduceIte, Bool.false_eq_true] at r1800
              try simp only [go_sem, ↓reduceIte, reduceCtorEq, nA, nB, nC, nD, nE, nF, nG, nH, iA, *]
              cases r1800
              dsimp only [St.on, Sum.elim_inr] at hc1786
              cases hc1786
              simp (maxDischargeDepth := 40) only [go_sem, ↓reduceIte, reduceCtorEq, nA, nB, nC, nD, nE, nF, nG, nH, iA, cast0, cast1, lA, lB, lC, lD, lE, mapV_nil, *]
            | false =>
              simp only [h1804, ↓reduceIte, Bool.false_eq_true] at r1800
              cases h1805 : (x1794.2 == x1798.2) with
              | true =>
                simp only [h1805, ↓reduceIte, Bool.false_eq_true] at r1800
                try simp only [go_sem, ↓reduceIte, reduceCtorEq, nA, nB, nC, nD, nE, nF, nG, nH, iA, *]
                cases r1800
                refine hKhc1786 _ _ rfl ?_
                try dsimp only
                refine LeS.pick [some 0, some 1] rfl rfl ?_ ?_
                all_goals simp (maxDischargeDepth := 40) only [go_sem, ↓reduceIte, reduceCtorEq, nA, nB, nC, nD, nE, nF, nG, nH, iA, cast0, cast1, lA, lB, lC, lD, lE, mapV_nil, *]
              | false =>
                simp only [h1805, ↓reduceIte, Bool.false_eq_true] at r1800
                try simp only [go_sem, ↓reduceIte, reduceCtorEq, nA, nB, nC, nD, nE, nF, nG, nH, iA, *]
                cases r1800
                dsimp only [St.on, Sum.elim_inr] at hc1786
                cases hc1786
                simp (maxDischargeDepth := 40) only [go_sem, ↓reduceIte, reduceCtorEq, nA, nB, nC, nD, nE, nF, nG, nH, iA, cast0, cast1, lA, lB, lC, lD, lE, mapV_nil, *]
          | false =>
            simp only [h1803, ↓reduceIte, Bool.false_eq_true] at r1800
            try simp only [go_sem, ↓reduceIte, reduceCtorEq, nA, nB, nC, nD, nE, nF, nG, nH, iA, *]
            cases r1800
            dsimp only [St.on, Sum.elim_inr] at hc1786
            cases hc1786
            simp (maxDischargeDepth := 40) only [go_sem, ↓reduceIte, reduceCtorEq, nA, nB, nC, nD, nE, nF, nG, nH, iA, cast0, cast1, lA, lB, lC, lD, lE, mapV_nil, *]
      | false =>
        simp only [h1793, ↓reduceIte, Bool.false_eq_true] at hq1785
        cases hq1785
        dsimp only [St.on, Sum.elim_inl] at hc1786
        cases h1806 : (decide (((a0.2.length : Nat) : Int) < ((a1.2.length : Nat) : Int))) with
        | true =>
          simp only [h1806, ↓reduceIte, Bool.false_eq_true] at hc1786
          try simp only [↓reduceIte, Bool.false_eq_true, Bool.not_true, Bool.not_false] at hc1786
          try simp only [↓reduceIte, Bool.false_eq_true, Bool.not_true, Bool.not_false] at hc1786
          try simp only [↓reduceIte, Bool.false_eq_true, Bool.not_true, Bool.not_false] at hc1786
          try simp only [↓reduceIte, Bool.false_eq_true, Bool.not_true, Bool.not_false] at hc1786
          try simp only [↓reduceIte, Bool.false_eq_true, Bool.not_true, Bool.not_false] at hc1786
          try simp only [↓reduceIte, Bool.false_eq_true, Bool.not_true, Bool.not_false] at hc1786
          try simp only [↓reduceIte, Bool.false_eq_true, Bool.not_true, Bool.not_false] at hc1786
          try simp only [↓reduceIte, Bool.false_eq_true, Bool.not_true, Bool.not_false] at hc1786
          try simp only [↓reduceIte, Bool.false_eq_true, Bool.not_true, Bool.not_false] at hc1786
          simp only [go_sem, ↓reduceIte, reduceCtorEq, nA, nB, nC, nD, nE, nF, nG, nH, iA, *]
          cases hc1786
          simp (maxDischargeDepth := 40) only [go_sem, ↓reduceIte, reduceCtorEq, nA, nB, nC, nD, nE, nF, nG, nH, iA, cast0, cast1, lA, lB, lC, lD, lE, mapV_nil, *]
        | false =>
          simp only [h1806, ↓reduceIte, Bool.false_eq_true] at hc1786
          try simp only [↓reduceIte, Bool.false_eq_true, Bool.not_true, Bool.not_false] at hc1786
          try simp only [↓reduceIte, Bool.false_eq_true, Bool.not_true, Bool.not_false] at hc1786
          try simp only [↓reduceIte, Bool.false_eq_true, Bool.not_true, Bool.not_false] at hc1786
          try simp only [↓reduceIte, Bool.false_eq_true, Bool.not_true, Bool.not_false] at hc1786
          try simp only [↓reduceIte, Bool.false_eq_true, Bool.not_true, Bool.not_false] at hc1786
          try simp only [↓reduceIte, Bool.false_eq_true, Bool.not_true, Bool.not_false] at hc1786
          try simp only [↓reduceIte, Bool.false_eq_true, Bool.not_true, Bool.not_false] at hc1786
          cases h1807 : (((a0.2.length : Nat) : Int) == ((a1.2.length : Nat) : Int)) with
          | true =>
            simp only [h1807, ↓reduceIte, Bool.false_eq_true] at hc1786
            try simp only [↓reduceIte, Bool.false_eq_true, Bool.not_true, Bool.not_false] at hc1786
            try simp only [↓reduceIte, Bool.false_eq_true, Bool.not_true, Bool.not_false] at hc1786
            try simp only [↓reduceIte, Bool.false_eq_true, Bool.not_true, Bool.not_false] at hc1786
            try simp only [↓reduceIte, Bool.false_eq_true, Bool.not_true, Bool.not_false] at hc1786
            try simp only [↓reduceIte, Bool.false_eq_true, Bool.not_true, Bool.not_false] at hc1786
            cases h1808 : (decide (a0.1 < a1.1)) with
            | true =>
              simp only [h1808, ↓reduceIte, Bool.false_eq_true] at hc1786
              simp only [go_sem, ↓reduceIte, reduceCtorEq, nA, nB, nC, nD, nE, nF, nG, nH, iA, *]
              cases hc1786
              simp (maxDischargeDepth := 40) only [go_sem, ↓reduceIte, reduceCtorEq, nA, nB, nC, nD, nE, nF, nG, nH, iA, cast0, cast1, lA, lB, lC, lD, lE, mapV_nil, *]
            | false =>
              simp only [h1808, ↓reduceIte, Bool.false_eq_true] at hc1786
              cases h1809 : (decide (((a1.2.length : Nat) : Int) < ((a0.2.length : Nat) : Int))) with
              | true =>
                simp only [h1809, ↓reduceIte, Bool.false_eq_true] at hc1786
                try simp only [↓reduceIte, Bool.false_eq_true, Bool.not_true, Bool.not_false] at hc1786
                try simp only [↓reduceIte, Bool.false_eq_true, Bool.not_true, Bool.not_false] at hc1786
                try simp only [↓reduceIte, Bool.false_eq_true, Bool.not_true, Bool.not_false] at hc1786
                try simp only [↓reduceIte, Bool.false_eq_true, Bool.not_true, Bool.not_false] at hc1786
                try simp only [↓reduceIte, Bool.false_eq_true, Bool.not_true, Bool.not_false] at hc1786
                simp only [go_sem, ↓reduceIte, reduceCtorEq, nA, nB, nC, nD, nE, nF, nG, nH, iA, *]
                cases hc1786
                simp (maxDischargeDepth := 40) only [go_sem, ↓reduceIte, reduceCtorEq, nA, nB, nC, nD, nE, nF, nG, nH, iA, cast0, cast1, lA, lB, lC, lD, lE, mapV_nil, *]
              | false =>
                simp only [h1809, ↓reduceIte, Bool.false_eq_true] at hc1786
                try simp only [↓reduceIte, Bool.false_eq_true, Bool.not_true, Bool.not_false] at hc1786
                try simp only [↓reduceIte, Bool.false_eq_true, Bool.not_true, Bool.not_false] at hc1786
                try simp only [↓reduceIte, Bool.false_eq_true, Bool.not_true, Bool.not_false] at hc1786
                try simp only [↓reduceIte, Bool.false_eq_true, Bool.not_true, Bool.not_false] at hc1786
                cases h1810 : (decide (a1.1 < a0.1)) with
                | true =>
                  simp only [h1810, ↓reduceIte, Bool.false_eq_true] at hc1786
                  simp only [go_sem, ↓reduceIte, reduceCtorEq, nA, nB, nC, nD, nE, nF, nG, nH, iA, *]
                  cases hc1786
                  simp (maxDischargeDepth := 40) only [go_sem, ↓reduceIte, reduceCtorEq, nA, nB, nC, nD, nE, nF, nG, nH, iA, cast0, cast1, lA, lB, lC, lD, lE, mapV_nil, *]
                | false =>
                  simp only [h1810, ↓reduceIte, Bool.false_eq_true] at hc1786
                  simp only [go_sem, ↓reduceIte, reduceCtorEq, nA, nB, nC, nD, nE, nF, nG, nH, iA, *]
                  cases hc1786
                  simp (maxDischargeDepth := 40) only [go_sem, ↓reduceIte, reduceCtorEq, nA, nB, nC, nD, nE, nF, nG, nH, iA, cast0, cast1, lA, lB, lC, lD, lE, mapV_nil, *]
          | false =>
            simp only [h1807, ↓reduceIte, Bool.false_eq_true] at hc1786
            try simp only [↓reduceIte, Bool.false_eq_true, Bool.not_true, Bool.not_false] at hc1786
            try simp only [↓reduceIte, Bool.false_eq_true, Bool.not_true, Bool.not_false] at hc1786
            try simp only [↓reduceIte, Bool.false_eq_true, Bool.not_true, Bool.not_false] at hc1786
            try simp only [↓reduceIte, Bool.false_eq_true, Bool.not_true, Bool.not_false] at hc1786
            try simp only [↓reduceIte, Bool.false_eq_true, Bool.not_true, Bool.not_false] at hc1786
            try simp only [↓reduceIte, Bool.false_eq_true, Bool.not_true, Bool.not_false] at hc1786
            cases h1811 : (decide (((a1.2.length : Nat) : Int) < ((a0.2.length : Nat) : Int))) with
            | true =>
              simp only [h1811, ↓reduceIte, Bool.false_eq_true] at hc1786
              try simp only [↓reduceIte, Bool.false_eq_true, Bool.not_true, Bool.not_false] at hc1786
              try simp only [↓reduceIte, Bool.false_eq_true, Bool.not_true, Bool.not_false] at hc1786
              try simp only [↓reduceIte, Bool.false_eq_true, Bool.not_true, Bool.not_false] at hc1786
              try simp only [↓reduceIte, Bool.false_eq_true, Bool.not_true, Bool.not_false] at hc1786
              try simp only [↓reduceIte, Bool.false_eq_true, Bool.not_true, Bool.not_false] at hc1786
              simp only [go_sem, ↓reduceIte, reduceCtorEq, nA, nB, nC, nD, nE, nF, nG, nH, iA, *]
              cases hc1786
              simp (maxDischargeDepth := 40) only [go_sem, ↓reduceIte, reduceCtorEq, nA, nB, nC, nD, nE, nF, nG, nH, iA, cast0, cast1, lA, lB, lC, lD, lE, mapV_nil, *]
            | false =>
              simp only [h1811, ↓reduceIte, Bool.false_eq_true] at hc1786
              try simp only [↓reduceIte, Bool.false_eq_true, Bool.not_true, Bool.not_false] at hc1786
              try simp only [↓reduceIte, Bool.false_eq_true, Bool.not_true, Bool.not_false] at hc1786
              try simp only [↓reduceIte, Bool.false_eq_true, Bool.not_true, Bool.not_false] at hc1786
              try simp only [↓reduceIte, Bool.false_eq_true, Bool.not_true, Bool.not_false] at hc1786
              cases h1812 : (decide (a1.1 < a0.1)) with
              | true =>
                simp only [h1812, ↓reduceIte, Bool.false_eq_true] at hc1786
                simp only [go_sem, ↓reduceIte, reduceCtorEq, nA, nB, nC, nD, nE, nF, nG, nH, iA, *]
                cases hc1786
                simp (maxDischargeDepth := 40) only [go_sem, ↓reduceIte, reduceCtorEq, nA, nB, nC, nD, nE, nF, nG, nH, iA, cast0, cast1, lA, lB, lC, lD, lE, mapV_nil, *]
              | false =>
                simp only [h1812, ↓reduceIte, Bool.false_eq_true] at hc1786
                simp only [go_sem, ↓reduceIte, reduceCtorEq, nA, nB, nC, nD, nE, nF, nG, nH, iA, *]
                cases hc1786
                simp (maxDischargeDepth := 40) only [go_sem, ↓reduceIte, reduceCtorEq, nA, nB, nC, nD, nE, nF, nG, nH, iA, cast0, cast1, lA, lB, lC, lD, lE, mapV_nil, *]
    | false =>
      simp only [h1792, ↓reduceIte, Bool.false_eq_true] at hq1785
      cases hq1785
      dsimp only [St.on, Sum.elim_inl] at hc1786
      cases h1813 : (decide (((a0.2.length : Nat) : Int) < ((a1.2.length : Nat) : Int))) with
      | true =>
        simp only [h1813, ↓reduceIte, Bool.false_eq_true] at hc1786
        try simp only [↓reduceIte, Bool.false_eq_true, Bool.not_true, Bool.not_false] at hc1786
        try simp only [↓reduceIte, Bool.false_eq_true, Bool.not_true, Bool.not_false] at hc1786
        try simp only [↓reduceIte, Bool.false_eq_true, Bool.not_true, Bool.not_false] at hc1786
        try simp only [↓reduceIte, Bool.false_eq_true, Bool.not_true, Bool.not_false] at hc1786
        try simp only [↓reduceIte, Bool.false_eq_true, Bool.not_true, Bool.not_false] at hc1786
        try simp only [↓reduceIte, Bool.false_eq_true, Bool.not_true, Bool.not_false] at hc1786
        try simp only [↓reduceIte, Bool.false_eq_true, Bool.not_true, Bool.not_false] at hc1786
        try simp only [↓reduceIte, Bool.false_eq_true, Bool.not_true, Bool.not_false] at hc1786
        try simp only [↓reduceIte, Bool.false_eq_true, Bool.not_true, Bool.not_false] at hc1786
        simp only [go_sem, ↓reduceIte, reduceCtorEq, nA, nB, nC, nD, nE, nF, nG, nH, iA, *]
        cases hc1786
        simp (maxDischargeDepth := 40) only [go_sem, ↓reduceIte, reduceCtorEq, nA, nB, nC, nD, nE, nF, nG, nH, iA, cast0, cast1, lA, lB, lC, lD, lE, mapV_nil, *]
      | false =>
        simp only [h1813, ↓reduceIte, Bool.false_eq_true] at hc1786
        try simp only [↓reduceIte, Bool.false_eq_true, Bool.not_true, Bool.not_false] at hc1786
        try simp only [↓reduceIte, Bool.false_eq_true, Bool.not_true, Bool.not_false] at hc1786
        try simp only [↓reduceIte, Bool.false_eq_true, Bool.not_true, Bool.not_false] at hc1786
        try simp only [↓reduceIte, Bool.false_eq_true, Bool.not_true, Bool.not_false] at hc1786
        try simp only [↓reduceIte, Bool.false_eq_true, Bool.not_true, Bool.not_false] at hc1786
        try simp only [↓reduceIte, Bool.false_eq_true, Bool.not_true, Bool.not_false] at hc1786
        try simp only [↓reduceIte, Bool.false_eq_true, Bool.not_true, Bool.not_false] at hc1786
        cases h1814 : (((a0.2.length : Nat) : Int) == ((a1.2.length : Nat) : Int)) with
        | true =>
          simp only [h1814, ↓reduceIte, Bool.false_eq_true] at hc1786
          try simp only [↓reduceIte, Bool.false_eq_true, Bool.not_true, Bool.not_false] at hc1786
          try simp only [↓reduceIte, Bool.false_eq_true, Bool.not_true, Bool.not_false] at hc1786
          try simp only [↓reduceIte, Bool.false_eq_true, Bool.not_true, Bool.not_false] at hc1786
          try simp only [↓reduceIte, Bool.false_eq_true, Bool.not_true, Bool.not_false] at hc1786
          try simp only [↓reduceIte, Bool.false_eq_true, Bool.not_true, Bool.not_false] at hc1786
          cases h1815 : (decide (a0.1 < a1.1)) with
          | true =>
            simp only [h1815, ↓reduceIte, Bool.false_eq_true] at hc1786
            simp only [go_sem, ↓reduceIte, reduceCtorEq, nA, nB, nC, nD, nE, nF, nG, nH, iA, *]
            cases hc1786
            simp (maxDischargeDepth := 40) only [go_sem, ↓reduceIte, reduceCtorEq, nA, nB, nC, nD, nE, nF, nG, nH, iA, cast0, cast1, lA, lB, lC, lD, lE, mapV_nil, *]
          | false =>
            simp only [h1815, ↓reduceIte, Bool.false_eq_true] at hc1786
            cases h1816 : (decide (((a1.2.length : Nat) : Int) < ((a0.2.length : Nat) : Int))) with
            | true =>
              simp only [h1816, ↓reduceIte, Bool.false_eq_true] at hc1786
              try simp only [↓reduceIte, Bool.false_eq_true, Bool.not_true, Bool.not_false] at hc1786
              try simp only [↓reduceIte, Bool.false_eq_true, Bool.not_true, Bool.not_false] at hc1786
              try simp only [↓reduceIte, Bool.false_eq_true, Bool.not_true, Bool.not_false] at hc1786
              try simp only [↓reduceIte, Bool.false_eq_true, Bool.not_true, Bool.not_false] at hc1786
              try simp only [↓reduceIte, Bool.false_eq_true, Bool.not_true, Bool.not_false] at hc1786
              simp only [go_sem, ↓reduceIte, reduceCtorEq, nA, nB, nC, nD, nE, nF, nG, nH, iA, *]
              cases hc1786
              simp (maxDischargeDepth := 40) only [go_sem, ↓reduceIte, reduceCtorEq, nA, nB, nC, nD, nE, nF, nG, nH, iA, cast0, cast1, lA, lB, lC, lD, lE, mapV_nil, *]
            | false =>
              simp only [h1816, ↓reduceIte, Bool.false_eq_true] at hc1786
              try simp only [↓reduceIte, Bool.false_eq_true, Bool.not_true, Bool.not_false] at hc1786
              try simp only [↓reduceIte, Bool.false_eq_true, Bool.not_true, Bool.not_false] at hc1786
              try simp only [↓reduceIte, Bool.false_eq_true, Bool.not_true, Bool.not_false] at hc1786
              try simp only [↓reduceIte, Bool.false_eq_true, Bool.not_true, Bool.not_false] at hc1786
              cases h1817 : (decide (a1.1 < a0.1)) with
              | true =>
                simp only [h1817, ↓reduceIte, Bool.false_eq_true] at hc1786
                simp only [go_sem, ↓reduceIte, reduceCtorEq, nA, nB, nC, nD, nE, nF, nG, nH, iA, *]
                cases hc1786
                simp (maxDischargeDepth := 40) only [go_sem, ↓reduceIte, reduceCtorEq, nA, nB, nC, nD, nE, nF, nG, nH, iA, cast0, cast1, lA, lB, lC, lD, lE, mapV_nil, *]
              | false =>
                simp only [h1817, ↓reduceIte, Bool.false_eq_true] at hc1786
                simp only [go_sem, ↓reduceIte, reduceCtorEq, nA, nB, nC, nD, nE, nF, nG, nH, iA, *]
                cases hc1786
                simp (maxDischargeDepth := 40) only [go_sem, ↓reduceIte, reduceCtorEq, nA, nB, nC, nD, nE, nF, nG, nH, iA, cast0, cast1, lA, lB, lC, lD, lE, mapV_nil, *]
        | false =>
          simp only [h1814, ↓reduceIte, Bool.false_eq_true] at hc1786
          try simp only [↓reduceIte, Bool.false_eq_true, Bool.not_true, Bool.not_false] at hc1786
          try simp only [↓reduceIte, Bool.false_eq_true, Bool.not_true, Bool.not_false] at hc1786
          try simp only [↓reduceIte, Bool.false_eq_true, Bool.not_true, Bool.not_false] at hc1786
          try simp only [↓reduceIte, Bool.false_eq_true, Bool.not_true, Bool.not_false] at hc1786
          try simp only [↓reduceIte, Bool.false_eq_true, Bool.not_true, Bool.not_false] at hc1786
          try simp only [↓reduceIte, Bool.false_eq_true, Bool.not_true, Bool.not_false] at hc1786
          cases h1818 : (decide (((a1.2.length : Nat) : Int) < ((a0.2.length : Nat) : Int))) with
          | true =>
            simp only [h1818, ↓reduceIte, Bool.false_eq_true] at hc1786
            try simp only [↓reduceIte, Bool.false_eq_true, Bool.not_true, Bool.not_false] at hc1786
            try simp only [↓reduceIte, Bool.false_eq_true, Bool.not_true, Bool.not_false] at hc1786
            try simp only [↓reduceIte, Bool.false_eq_true, Bool.not_true, Bool.not_false] at hc1786
            try simp only [↓reduceIte, Bool.false_eq_true, Bool.not_true, Bool.not_false] at hc1786
            try simp only [↓reduceIte, Bool.false_eq_true, Bool.not_true, Bool.not_false] at hc1786
            simp only [go_sem, ↓reduceIte, reduceCtorEq, nA, nB, nC, nD, nE, nF, nG, nH, iA, *]
            cases hc1786
            simp (maxDischargeDepth := 40) only [go_sem, ↓reduceIte, reduceCtorEq, nA, nB, nC, nD, nE, nF, nG, nH, iA, cast0, cast1, lA, lB, lC, lD, lE, mapV_nil, *]
          | false =>
            simp only [h1818, ↓reduceIte, Bool.false_eq_true] at hc1786
            try simp only [↓reduceIte, Bool.false_eq_true, Bool.not_true, Bool.not_false] at hc1786
            try simp only [↓reduceIte, Bool.false_eq_true, Bool.not_true, Bool.not_false] at hc1786
            try simp only [↓reduceIte, Bool.false_eq_true, Bool.not_true, Bool.not_false] at hc1786
            try simp only [↓reduceIte, Bool.false_eq_true, Bool.not_true, Bool.not_false] at hc1786
            cases h1819 : (decide (a1.1 < a0.1)) with
            | true =>
              simp only [h1819, ↓reduceIte, Bool.false_eq_true] at hc1786
              simp only [go_sem, ↓reduceIte, reduceCtorEq, nA, nB, nC, nD, nE, nF, nG, nH, iA, *]
              cases hc1786
              simp (maxDischargeDepth := 40) only [go_sem, ↓reduceIte, reduceCtorEq, nA, nB, nC, nD, nE, nF, nG, nH, iA, cast0, cast1, lA, lB, lC, lD, lE, mapV_nil, *]
            | false =>
              simp only [h1819, ↓reduceIte, Bool.false_eq_true] at hc1786
              simp only [go_sem, ↓reduceIte, reduceCtorEq, nA, nB, nC, nD, nE, nF, nG, nH, iA, *]
              cases hc1786
              simp (maxDischargeDepth := 40) only [go_sem, ↓reduceIte, reduceCtorEq, nA, nB, nC, nD, nE, nF, nG, nH, iA, cast0, cast1, lA, lB, lC, lD, lE, mapV_nil, *]

def ref04_Equal (a0 : Int × (List (ByteArray × Int))) (a1 : Int × (List (ByteArray × Int))) : Option Bool :=
  (ref04_Compare a0 a1).bind fun y1827 =>
some (y1827 == (0 : Int))
set_option maxHeartbeats 2000000 in
theorem ref04_Equal_ok {a0 : Int × (List (ByteArray × Int))} {a1 : Int × (List (ByteArray × Int))} {r : Bool} (hr : ref04_Equal a0 a1 = some r) : Meets Try.prog 19 [.agg [.c (.int .i64 a0.1), .sl false 2 (a0.2.map e_api_Coef)], .agg [.c (.int .i64 a1.1), .sl false 2 (a1.2.map e_api_Coef)]] (.c (.bool r)) := by
  unfold ref04_Equal at hr
  refine meetsV_of (X := true) Ty.mixed Try.func19 (by kernel_rfl) rfl (by kernel_rfl) (by simp) ?_; rw [Try.ntmps19, Try.results19]
  simp only [go_sem, ↓reduceIte, reduceCtorEq, nA, nB, nC, nD, nE, nF, nG, nH, iA, *]
  obtain ⟨y1827, h1828, r1829⟩ := bindS hr
  clear hr
  try dsimp only at r1829
  refine call_meets ((ref04_Compare_ok h1828).le ?_) (by first | (simp only [go_sem, ↓reduceIte, reduceCtorEq, nA, nB, nC, nD, nE, nF, nG, nH, iA, *] <;> rfl) | rfl) ?_
  · simp (maxDischargeDepth := 40) only [go_sem, ↓reduceIte, reduceCtorEq, nA, nB, nC, nD, nE, nF, nG, nH, iA, cast0, cast1, lA, lB, lC, lD, lE, mapV_nil, *]
  simp only [go_sem, ↓reduceIte, reduceCtorEq, nA, nB, nC, nD, nE, nF, nG, nH, iA, *]
  cases r1829
  simp (maxDischargeDepth := 40) only [go_sem, ↓reduceIte, reduceCtorEq, nA, nB, nC, nD, nE, nF, nG, nH, iA, cast0, cast1, lA, lB, lC, lD, lE, mapV_nil, *]

def ref07_plain (a0 : T_api_Cert) : Option Bool :=
  (ref04_Equal a0.f2 ((0 : Int), [])).bind fun y1830 =>
if (a0.f0 == (1 : Int)) then
  if y1830 then
    some (((a0.f3.length : Nat) : Int) == (0 : Int))
  else
    some false
else
  if (a0.f0 == (2 : Int)) then
    if y1830 then
      some (((a0.f3.length : Nat) : Int) == (1 : Int))
    else
      some false
  else
    if (a0.f0 == (3 : Int)) then
      if (((a0.f1.length : Nat) : Int) == (0 : Int)) then
        some (((a0.f3.length : Nat) : Int) == (2 : Int))
      else
        some false
    else
      some false
set_option maxHeartbeats 2000000 in
theorem ref07_plain_ok {a0 : T_api_Cert} {r : Bool} (hr : ref07_plain a0 = some r) : Meets Try.prog 67 [.agg [.c (.int .i64 a0.f0), .sl false 1 (a0.f1.map e_int), .c (.int .i64 a0.f2.1), .sl false 2 (a0.f2.2.map e_api_Coef), .sl false 5 (a0.f3.map e_api_Cert)]] (.c (.bool r)) := by
  unfold ref07_plain at hr
  refine meetsV_of (X := true) Ty.mixed Try.func67 (by kernel_rfl) rfl (by kernel_rfl) (by simp) ?_; rw [Try.ntmps67, Try.results67]
  simp only [go_sem, ↓reduceIte, reduceCtorEq, nA, nB, nC, nD, nE, nF, nG, nH, iA, *]
  obtain ⟨y1830, h1831, r1832⟩ := bindS hr
  clear hr
  try dsimp only at r1832
  cases h1833 : (a0.f0 == (1 : Int)) with
  | true =>
    simp only [h1833, ↓reduceIte, Bool.false_eq_true] at r1832
    cases h1834 : y1830 with
    | true =>
      simp only [h1834, ↓reduceIte, Bool.false_eq_true] at r1832
      refine call_meets ((ref04_Equal_ok h1831).le ?_) (by first | (simp only [go_sem, ↓reduceIte, reduceCtorEq, nA, nB, nC, nD, nE, nF, nG, nH, iA, *] <;> rfl) | rfl) ?_
      · simp (maxDischargeDepth := 40) only [go_sem, ↓reduceIte, reduceCtorEq, nA, nB, nC, nD, nE, nF, nG, nH, iA, cast0, cast1, lA, lB, lC, lD, lE, mapV_nil, *]
      simp only [go_sem, ↓reduceIte, reduceCtorEq, nA, nB, nC, nD, nE, nF, nG, nH, iA, *]
      cases r1832
      simp (maxDischargeDepth := 40) only [go_sem, ↓reduceIte, reduceCtorEq, nA, nB, nC, nD, nE, nF, nG, nH, iA, cast0, cast1, lA, lB, lC, lD, lE, mapV_nil, *]
    | false =>
      simp only [h1834, ↓reduceIte, Bool.false_eq_true] at r1832
      refine call_meets ((ref04_Equal_ok h1831).le ?_) (by first | (simp only [go_sem, ↓reduceIte, reduceCtorEq, nA, nB, nC, nD, nE, nF, nG, nH, iA, *] <;> rfl) | rfl) ?_
      · simp (maxDischargeDepth := 40) only [go_sem, ↓reduceIte, reduceCtorEq, nA, nB, nC, nD, nE, nF, nG, nH, iA, cast0, cast1, lA, lB, lC, lD, lE, mapV_nil, *]
      simp only [go_sem, ↓reduceIte, reduceCtorEq, nA, nB, nC, nD, nE, nF, nG, nH, iA, *]
      cases r1832
      simp (maxDischargeDepth := 40) only [go_sem, ↓reduceIte, reduceCtorEq, nA, nB, nC, nD, nE, nF, nG, nH, iA, cast0, cast1, lA, lB, lC, lD, lE, mapV_nil, *]
  | false =>
    simp only [h1833, ↓reduceIte, Bool.false_eq_true] at r1832
    cases h1835 : (a0.f0 == (2 : Int)) with
    | true =>
      simp only [h1835, ↓reduceIte, Bool.false_eq_true] at r1832
      cases h1836 : y1830 with
      | true =>
        simp only [h1836, ↓reduceIte, Bool.false_eq_true] at r1832
        refine call_meets ((ref04_Equal_ok h1831).le ?_) (by first | (simp only [go_sem, ↓reduceIte, reduceCtorEq, nA, nB, nC, nD, nE, nF, nG, nH, iA, *] <;> rfl) | rfl) ?_
        · simp (maxDischargeDepth := 40) only [go_sem, ↓reduceIte, reduceCtorEq, nA, nB, nC, nD, nE, nF, nG, nH, iA, cast0, cast1, lA, lB, lC, lD, lE, mapV_nil, *]
        simp only [go_sem, ↓reduceIte, reduceCtorEq, nA, nB, nC, nD, nE, nF, nG, nH, iA, *]
        cases r1832
        simp (maxDischargeDepth := 40) only [go_sem, ↓reduceIte, reduceCtorEq, nA, nB, nC, nD, nE, nF, nG, nH, iA, cast0, cast1, lA, lB, lC, lD, lE, mapV_nil, *]
      | false =>
        simp only [h1836, ↓reduceIte, Bool.false_eq_true] at r1832
        refine call_meets ((ref04_Equal_ok h1831).le ?_) (by first | (simp only [go_sem, ↓reduceIte, reduceCtorEq, nA, nB, nC, nD, nE, nF, nG, nH, iA, *] <;> rfl) | rfl) ?_
        · simp (maxDischargeDepth := 40) only [go_sem, ↓reduceIte, reduceCtorEq, nA, nB, nC, nD, nE, nF, nG, nH, iA, cast0, cast1, lA, lB, lC, lD, lE, mapV_nil, *]
        simp only [go_sem, ↓reduceIte, reduceCtorEq, nA, nB, nC, nD, nE, nF, nG, nH, iA, *]
        cases r1832
        simp (maxDischargeDepth := 40) only [go_sem, ↓reduceIte, reduceCtorEq, nA, nB, nC, nD, nE, nF, nG, nH, iA, cast0, cast1, lA, lB, lC, lD, lE, mapV_nil, *]
    | false =>
      simp only [h1835, ↓reduceIte, Bool.false_eq_true] at r1832
      cases h1837 : (a0.f0 == (3 : Int)) with
      | true =>
        simp only [h1837, ↓reduceIte, Bool.false_eq_true] at r1832
        cases h1838 : (((a0.f1.length : Nat) : Int) == (0 : Int)) with
        | true =>
          simp only [h1838, ↓reduceIte, Bool.false_eq_true] at r1832
          refine call_meets ((ref04_Equal_ok h1831).le ?_) (by first | (simp only [go_sem, ↓reduceIte, reduceCtorEq, nA, nB, nC, nD, nE, nF, nG, nH, iA, *] <;> rfl) | rfl) ?_
          · simp (maxDischargeDepth := 40) only [go_sem, ↓reduceIte, reduceCtorEq, nA, nB, nC, nD, nE, nF, nG, nH, iA, cast0, cast1, lA, lB, lC, lD, lE, mapV_nil, *]
          simp only [go_sem, ↓reduceIte, reduceCtorEq, nA, nB, nC, nD, nE, nF, nG, nH, iA, *]
          cases r1832
          simp (maxDischargeDepth := 40) only [go_sem, ↓reduceIte, reduceCtorEq, nA, nB, nC, nD, nE, nF, nG, nH, iA, cast0, cast1, lA, lB, lC, lD, lE, mapV_nil, *]
        | false =>
          simp only [h1838, ↓reduceIte, Bool.false_eq_true] at r1832
          refine call_meets ((ref04_Equal_ok h1831).le ?_) (by first | (simp only [go_sem, ↓reduceIte, reduceCtorEq, nA, nB, nC, nD, nE, nF, nG, nH, iA, *] <;> rfl) | rfl) ?_
          · simp (maxDischargeDepth := 40) only [go_sem, ↓reduceIte, reduceCtorEq, nA, nB, nC, nD, nE, nF, nG, nH, iA, cast0, cast1, lA, lB, lC, lD, lE, mapV_nil, *]
          simp only [go_sem, ↓reduceIte, reduceCtorEq, nA, nB, nC, nD, nE, nF, nG, nH, iA, *]
          cases r1832
          simp (maxDischargeDepth := 40) only [go_sem, ↓reduceIte, reduceCtorEq, nA, nB, nC, nD, nE, nF, nG, nH, iA, cast0, cast1, lA, lB, lC, lD, lE, mapV_nil, *]
      | false =>
        simp only [h1837, ↓reduceIte, Bool.false_eq_true] at r1832
        refine call_meets ((ref04_Equal_ok h1831).le ?_) (by first | (simp only [go_sem, ↓reduceIte, reduceCtorEq, nA, nB, nC, nD, nE, nF, nG, nH, iA, *] <;> rfl) | rfl) ?_
        · simp (maxDischargeDepth := 40) only [go_sem, ↓reduceIte, reduceCtorEq, nA, nB, nC, nD, nE, nF, nG, nH, iA, cast0, cast1, lA, lB, lC, lD, lE, mapV_nil, *]
        simp only [go_sem, ↓reduceIte, reduceCtorEq, nA, nB, nC, nD, nE, nF, nG, nH, iA, *]
        cases r1832
        simp (maxDischargeDepth := 40) only [go_sem, ↓reduceIte, reduceCtorEq, nA, nB, nC, nD, nE, nF, nG, nH, iA, cast0, cast1, lA, lB, lC, lD, lE, mapV_nil, *]

def ref04_Plus (a0 : Int × (List (ByteArray × Int))) (a1 : ByteArray) (a2 : Int) : Option ((Int × (List (ByteArray × Int)))) :=
  (forC (R := (Int × (List (ByteArray × Int)))) (a0.2.length) (([], false) : (List (ByteArray × Int)) × Bool) fun k1904 s1903 =>
  (a0.2[k1904]?).bind fun x1912 =>
  if s1903.2 then
    if (eqB x1912.1 a1) then
      iffO (decide ((s1903.1.length + 1) * 24 ≤ 140737488355328))
        (some (.nx ((s1903.1 ++ [(x1912.1, (IntKind.i64.wrap (x1912.2 + a2)))]), true)))
    else
      iffO (decide ((s1903.1.length + 1) * 24 ≤ 140737488355328))
        (some (.nx ((s1903.1 ++ [x1912]), true)))
  else
    if (lessB x1912.1 a1) then
      if (eqB x1912.1 a1) then
        iffO (decide ((s1903.1.length + 1) * 24 ≤ 140737488355328))
          (some (.nx ((s1903.1 ++ [(x1912.1, (IntKind.i64.wrap (x1912.2 + a2)))]), true)))
      else
        iffO (decide ((s1903.1.length + 1) * 24 ≤ 140737488355328))
          (some (.nx ((s1903.1 ++ [x1912]), false)))
    else
      if (eqB x1912.1 a1) then
        iffO (decide ((s1903.1.length + 1) * 24 ≤ 140737488355328))
          (some (.nx ((s1903.1 ++ [(x1912.1, (IntKind.i64.wrap (x1912.2 + a2)))]), true)))
      else
        iffO (decide ((s1903.1.length + 1) * 24 ≤ 140737488355328))
          (iffO (decide (((s1903.1.length + 1) + 1) * 24 ≤ 140737488355328))
            (some (.nx (((s1903.1 ++ [(a1, a2)]) ++ [x1912]), true))))).bind (Sum.elim (fun s1903 =>
  if s1903.2 then
    (whlC (R := (Int × (List (ByteArray × Int)))) ((s1903.1, (0 : Int), (0 : Int)) : (List (ByteArray × Int)) × Int × Int) fun s1957 =>
      if (decide (s1957.2.2 < ((s1957.1.length : Nat) : Int))) then
        (idxO s1957.1 s1957.2.2).bind fun x1967 =>
        if (x1967.2 != (0 : Int)) then
          (idxO s1957.1 s1957.2.1).bind fun x1973 =>
          some (.nx ((s1957.1.set s1957.2.1.toNat x1967), (IntKind.i64.wrap (s1957.2.1 + (1 : Int))), (IntKind.i64.wrap (s1957.2.2 + (1 : Int)))))
        else
          some (.nx (s1957.1, s1957.2.1, (IntKind.i64.wrap (s1957.2.2 + (1 : Int)))))
      else
        some (.br (s1957.1, s1957.2.1, s1957.2.2))).bind (Sum.elim (fun s1957 =>
      iffO (decide (0 ≤ s1957.2.1) && decide (s1957.2.1 ≤ (s1957.1.length : Int)))
        (some (a0.1, (s1957.1.take s1957.2.1.toNat)))) some)
  else
    iffO (decide ((s1903.1.length + 1) * 24 ≤ 140737488355328))
      ((whlC (R := (Int × (List (ByteArray × Int)))) (((s1903.1 ++ [(a1, a2)]), (0 : Int), (0 : Int)) : (List (ByteArray × Int)) × Int × Int) fun s2011 =>
        if (decide (s2011.2.2 < ((s2011.1.length : Nat) : Int))) then
          (idxO s2011.1 s2011.2.2).bind fun x2021 =>
          if (x2021.2 != (0 : Int)) then
            (idxO s2011.1 s2011.2.1).bind fun x2027 =>
            some (.nx ((s2011.1.set s2011.2.1.toNat x2021), (IntKind.i64.wrap (s2011.2.1 + (1 : Int))), (IntKind.i64.wrap (s2011.2.2 + (1 : Int)))))
          else
            some (.nx (s2011.1, s2011.2.1, (IntKind.i64.wrap (s2011.2.2 + (1 : Int)))))
        else
          some (.br (s2011.1, s2011.2.1, s2011.2.2))).bind (Sum.elim (fun s2011 =>
        iffO (decide (0 ≤ s2011.2.1) && decide (s2011.2.1 ≤ (s2011.1.length : Int)))
          (some (a0.1, (s2011.1.take s2011.2.1.toNat)))) some))) some)
set_option maxHeartbeats 2000000 in
theorem ref04_Plus_ok {a0 : Int × (List (ByteArray × Int))} {a1 : ByteArray} {a2 : Int} {r : (Int × (List (ByteArray × Int)))} (hr : ref04_Plus a0 a1 a2 = some r) : Meets Try.prog 36 [.agg [.c (.int .i64 a0.1), .sl false 2 (a0.2.map e_api_Coef)], .c (.string a1), .c (.int .i64 a2)] (.agg [.c (.int .i64 r.1), .sl false 2 (r.2.map e_api_Coef)]) := by
  unfold ref04_Plus at hr
  refine meetsV_of (X := true) Ty.mixed Try.func36 (by kernel_rfl) rfl (by kernel_rfl) (by simp) ?_; rw [Try.ntmps36, Try.results36]
  simp only [go_sem, ↓reduceIte, reduceCtorEq, nA, nB, nC, nD, nE, nF, nG, nH, iA, *]
  refine loop_for hr (fun k1904 s1903 => ⟨100, [(1, .c (.string a1)), (2, .c (.int .i64 a2)), (3, .ptr 0 0), (6, .ptr 1 0), (7, .ptr 2 0), (8, .c (.bool s1903.2)), (9, .c (.int .i64 (k1904 : Int)))], [some (.var 26 [.c (.int .i64 a0.1), .sl false 2 (a0.2.map e_api_Coef)]), some (.var 26 [.c (.int .i64 (0 : Int)), .nils]), some (.var 26 [.c (.int .i64 a0.1), .own 3 2 s1903.1.length]), some (.row 71 2 (s1903.1.map e_api_Coef))]⟩) ?_ ?_ ?_
  · try dsimp only
    refine LeS.pick [some 0, some 1, some 2, none] rfl rfl ?_ ?_
    all_goals simp (maxDischargeDepth := 40) only [go_sem, ↓reduceIte, reduceCtorEq, nA, nB, nC, nD, nE, nF, nG, nH, iA, cast0, cast1, lA, lB, lC, lD, lE, mapV_nil, *]
  · intro k1904 s1903 qhc1906 h1907 h1908 h1909 h1910 hq1905 hc1906 Khc1906 hKhc1906
    try dsimp only at hq1905
    obtain ⟨x1912, h1913, r1914⟩ := bindS hq1905
    clear hq1905
    try dsimp only at r1914
    cases h1916 : s1903.2 with
    | true =>
      simp only [h1916, ↓reduceIte, Bool.false_eq_true] at r1914
      cases h1917 : (eqB x1912.1 a1) with
      | true =>
        simp only [h1917, ↓reduceIte, Bool.false_eq_true] at r1914
        obtain ⟨h1918, r1919⟩ := iffO_some r1914
        clear r1914
        simp only [Bool.and_eq_true, decide_eq_true_eq] at h1918
        have g10 := get_map e_api_Coef h1913
        simp only [go_sem, ↓reduceIte, reduceCtorEq, nA, nB, nC, nD, nE, nF, nG, nH, iA, *]
        repeat refine ⟨by first | omega | (simp only [List.length_append, List.length_cons, List.length_nil, List.length_map, Nat.zero_add] at *; omega), ?_⟩
        cases r1919
        refine hKhc1906 _ _ rfl ?_
        try dsimp only
        refine LeS.pick [some 0, some 1, some 2, some 3] rfl rfl ?_ ?_
        all_goals simp (maxDischargeDepth := 40) only [go_sem, ↓reduceIte, reduceCtorEq, nA, nB, nC, nD, nE, nF, nG, nH, iA, cast0, cast1, lA, lB, lC, lD, lE, mapV_nil, *]
      | false =>
        simp only [h1917, ↓reduceIte, Bool.false_eq_true] at r1914
        obtain ⟨h1920, r1921⟩ := iffO_some r1914
        clear r1914
        simp only [Bool.and_eq_true, decide_eq_true_eq] at h1920
        have g11 := get_map e_api_Coef h1913
        simp only [go_sem, ↓reduceIte, reduceCtorEq, nA, nB, nC, nD, nE, nF, nG, nH, iA, *]
        repeat refine ⟨by first | omega | (simp only [List.length_append, List.length_cons, List.length_nil, List.length_map, Nat.zero_add] at *; omega), ?_⟩
        cases r1921
        refine hKhc1906 _ _ rfl ?_
        try dsimp only
        refine LeS.pick [some 0, some 1, some 2, some 3] rfl rfl ?_ ?_
        all_goals simp (maxDischargeDepth := 40) only [go_sem, ↓reduceIte, reduceCtorEq, nA, nB, nC, nD, nE, nF, nG, nH, iA, cast0, cast1, lA, lB, lC, lD, lE, mapV_nil, *]
    | false =>
      simp only [h1916, ↓reduceIte, Bool.false_eq_true] at r1914
      cases h1922 : (lessB x1912.1 a1) with
      | true =>
        simp only [h1922, ↓reduceIte, Bool.false_eq_true] at r1914
        cases h1923 : (eqB x1912.1 a1) with
        | true =>
          simp only [h1923, ↓reduceIte, Bool.false_eq_true] at r1914
          obtain ⟨h1924, r1925⟩ := iffO_some r1914
          clear r1914
          simp only [Bool.and_eq_true, decide_eq_true_eq] at h1924
          have g12 := get_map e_api_Coef h1913
          simp only [go_sem, ↓reduceIte, reduceCtorEq, nA, nB, nC, nD, nE, nF, nG, nH, iA, *]
          repeat refine ⟨by first | omega | (simp only [List.length_append, List.length_cons, List.length_nil, List.length_map, Nat.zero_add] at *; omega), ?_⟩
          cases r1925
          refine hKhc1906 _ _ rfl ?_
          try dsimp only
          refine LeS.pick [some 0, some 1, some 2, some 3] rfl rfl ?_ ?_
          all_goals simp (maxDischargeDepth := 40) only [go_sem, ↓reduceIte, reduceCtorEq, nA, nB, nC, nD, nE, nF, nG, nH, iA, cast0, cast1, lA, lB, lC, lD, lE, mapV_nil, *]
        | false =>
          simp only [h1923, ↓reduceIte, Bool.false_eq_true] at r1914
          obtain ⟨h1926, r1927⟩ := iffO_some r1914
          clear r1914
          simp only [Bool.and_eq_true, decide_eq_true_eq] at h1926
          have g13 := get_map e_api_Coef h1913
          simp only [go_sem, ↓reduceIte, reduceCtorEq, nA, nB, nC, nD, nE, nF, nG, nH, iA, *]
          repeat refine ⟨by first | omega | (simp only [List.length_append, List.length_cons, List.length_nil, List.length_map, Nat.zero_add] at *; omega), ?_⟩
          cases r1927
          refine hKhc1906 _ _ rfl ?_
          try dsimp only
          refine LeS.pick [some 0, some 1, some 2, some 3] rfl rfl ?_ ?_
          all_goals simp (maxDischargeDepth := 40) only [go_sem, ↓reduceIte, reduceCtorEq, nA, nB, nC, nD, nE, nF, nG, nH, iA, cast0, cast1, lA, lB, lC, lD, lE, mapV_nil, *]
      | false =>
        simp only [h1922, ↓reduceIte, Bool.false_eq_true] at r1914
        cases h1928 : (eqB x1912.1 a1) with
        | true =>
          simp only [h1928, ↓reduceIte, Bool.false_eq_true] at r1914
          obtain ⟨h1929, r1930⟩ := iffO_some r1914
          clear r1914
          simp only [Bool.and_eq_true, decide_eq_true_eq] at h1929
          have g14 := get_map e_api_Coef h1913
          simp only [go_sem, ↓reduceIte, reduceCtorEq, nA, nB, nC, nD, nE, nF, nG, nH, iA, *]
          repeat refine ⟨by first | omega | (simp only [List.length_append, List.length_cons, List.length_nil, List.length_map, Nat.zero_add] at *; omega), ?_⟩
          cases r1930
          refine hKhc1906 _ _ rfl ?_
          try dsimp only
          refine LeS.pick [some 0, some 1, some 2, some 3] rfl rfl ?_ ?_
          all_goals simp (maxDischargeDepth := 40) only [go_sem, ↓reduceIte, reduceCtorEq, nA, nB, nC, nD, nE, nF, nG, nH, iA, cast0, cast1, lA, lB, lC, lD, lE, mapV_nil, *]
        | false =>
          simp only [h1928, ↓reduceIte, Bool.false_eq_true] at r1914
          obtain ⟨h1931, r1932⟩ := iffO_some r1914
          clear r1914
          simp only [Bool.and_eq_true, decide_eq_true_eq] at h1931
          obtain ⟨h1933, r1934⟩ := iffO_some r1932
          clear r1932
          simp only [Bool.and_eq_true, decide_eq_true_eq] at h1933
          have g15 := get_map e_api_Coef h1913
          simp only [go_sem, ↓reduceIte, reduceCtorEq, nA, nB, nC, nD, nE, nF, nG, nH, iA, *]
          repeat refine ⟨by first | omega | (simp only [List.length_append, List.length_cons, List.length_nil, List.length_map, Nat.zero_add] at *; omega), ?_⟩
          cases r1934
          refine hKhc1906 _ _ rfl ?_
          try dsimp only
          refine LeS.pick [some 0, some 1, some 2, some 3] rfl rfl ?_ ?_
          all_goals simp (maxDischargeDepth := 40) only [go_sem, ↓reduceIte, reduceCtorEq, nA, nB, nC, nD, nE, nF, nG, nH, iA, cast0, cast1, lA, lB, lC, lD, lE, mapV_nil, *]
  · clear hr
    intro s1903 hr h1907 h1911 Khc1906
    dsimp only [Sum.elim_inl] at hr
    cases h1935 : s1903.2 with
    | true =>
      simp only [h1935, ↓reduceIte, Bool.false_eq_true] at hr
      simp only [go_sem, ↓reduceIte, reduceCtorEq, nA, nB, nC, nD, nE, nF, nG, nH, iA, *]
      refine loop_whl hr (fun s1957 => ⟨100, [(6, .ptr 1 0), (7, .ptr 2 0), (11, .c (.int .i64 s1957.2.1)), (12, .c (.int .i64 s1957.2.2))], [some (.var 26 [.c (.int .i64 a0.1), .sl false 2 (a0.2.map e_api_Coef)]), some (.var 26 [.c (.int .i64 (0 : Int)), .nils]), some (.var 26 [.c (.int .i64 a0.1), .own 3 2 s1957.1.length]), some (.row 71 2 (s1957.1.map e_api_Coef))]⟩) ?_ ?_
      · try dsimp only
        refine LeS.pick [some 0, some 1, some 2, some 3] rfl rfl ?_ ?_
        all_goals simp (maxDischargeDepth := 40) only [go_sem, ↓reduceIte, reduceCtorEq, nA, nB, nC, nD, nE, nF, nG, nH, iA, cast0, cast1, lA, lB, lC, lD, lE, mapV_nil, *]
      · intro s1957 qhc1960 hq1959 hc1960 Khc1960 hKhc1960
        try dsimp only at hq1959
        cases h1966 : (decide (s1957.2.2 < ((s1957.1.length : Nat) : Int))) with
        | true =>
          simp only [h1966, ↓reduceIte, Bool.false_eq_true] at hq1959
          obtain ⟨x1967, h1969, r1970⟩ := bindS hq1959
          clear hq1959
          try dsimp only at r1970
          obtain ⟨h1971, _, h1969⟩ := idxO_some h1969
          have h1968 := (List.getElem?_eq_some_iff.1 h1969).1
          cases h1972 : (x1967.2 != (0 : Int)) with
          | true =>
            simp only [h1972, ↓reduceIte, Bool.false_eq_true] at r1970
            have g16 := get_map e_api_Coef h1969
            have g17 := (fun i => Nat.mul_div_cancel i (by decide : 0 < 2))
            simp only [go_sem, ↓reduceIte, reduceCtorEq, nA, nB, nC, nD, nE, nF, nG, nH, iA, Nat.mul_mod_left, *]
            obtain ⟨x1973, h1975, r1976⟩ := bindS r1970
            clear r1970
            try dsimp only at r1976
            obtain ⟨h1977, _, h1975⟩ := idxO_some h1975
            have h1974 := (List.getElem?_eq_some_iff.1 h1975).1
            refine drawS_tail (by kernel_rfl) ?_
            have g18 := get_map e_api_Coef h1975
            simp only [go_sem, ↓reduceIte, reduceCtorEq, nA, nB, nC, nD, nE, nF, nG, nH, iA, Nat.mul_mod_left, Nat.mul_mod_left, *]
            cases r1976
            refine hKhc1960 _ _ rfl ?_
            try dsimp only
            refine LeS.pick [some 0, some 1, some 2, some 3] rfl rfl ?_ ?_
            all_goals simp (maxDischargeDepth := 40) only [go_sem, ↓reduceIte, reduceCtorEq, nA, nB, nC, nD, nE, nF, nG, nH, iA, cast0, cast1, lA, lB, lC, lD, lE, mapV_nil, Nat.mul_mod_left, Nat.mul_mod_left, *]
          | false =>
            simp only [h1972, ↓reduceIte, Bool.false_eq_true] at r1970
            have g19 := get_map e_api_Coef h1969
            have g20 := (fun i => Nat.mul_div_cancel i (by decide : 0 < 2))
            simp only [go_sem, ↓reduceIte, reduceCtorEq, nA, nB, nC, nD, nE, nF, nG, nH, iA, Nat.mul_mod_left, *]
            cases r1970
            refine hKhc1960 _ _ rfl ?_
            try dsimp only
            refine LeS.pick [some 0, some 1, some 2, some 3] rfl rfl ?_ ?_
            all_goals simp (maxDischargeDepth := 40) only [go_sem, ↓reduceIte, reduceCtorEq, nA, nB, nC, nD, nE, nF, nG, nH, iA, cast0, cast1, lA, lB, lC, lD, lE, mapV_nil, Nat.mul_mod_left, *]
        | false =>
          simp only [h1966, ↓reduceIte, Bool.false_eq_true] at hq1959
          cases hq1959
          dsimp only [St.on, Sum.elim_inl] at hc1960
          obtain ⟨h1979, r1980⟩ := iffO_some hc1960
          clear hc1960
          simp only [Bool.and_eq_true, decide_eq_true_eq] at h1979
          obtain ⟨h1981, h1982⟩ := h1979
          have h1978 : s1957.2.1.toNat ≤ s1957.1.length := by omega
          simp only [go_sem, ↓reduceIte, reduceCtorEq, nA, nB, nC, nD, nE, nF, nG, nH, iA, *]
          cases r1980
          simp (maxDischargeDepth := 40) only [go_sem, ↓reduceIte, reduceCtorEq, nA, nB, nC, nD, nE, nF, nG, nH, iA, cast0, cast1, lA, lB, lC, lD, lE, mapV_nil, *]
    | false =>
      simp only [h1935, ↓reduceIte, Bool.false_eq_true] at hr
      obtain ⟨h1988, r1989⟩ := iffO_some hr
      clear hr
      simp only [Bool.and_eq_true, decide_eq_true_eq] at h1988
      simp only [go_sem, ↓reduceIte, reduceCtorEq, nA, nB, nC, nD, nE, nF, nG, nH, iA, *]
      repeat refine ⟨by first | omega | (simp only [List.length_append, List.length_cons, List.length_nil, List.length_map, Nat.zero_add] at *; omega), ?_⟩
      refine loop_whl r1989 (fun s2011 => ⟨100, [(6, .ptr 1 0), (7, .ptr 2 0), (11, .c (.int .i64 s2011.2.1)), (12, .c (.int .i64 s2011.2.2))], [some (.var 26 [.c (.int .i64 a0.1), .sl false 2 (a0.2.map e_api_Coef)]), some (.var 26 [.c (.int .i64 (0 : Int)), .nils]), some (.var 26 [.c (.int .i64 a0.1), .own 3 2 s2011.1.length]), some (.row 71 2 (s2011.1.map e_api_Coef)), some (.row 71 2 ([(a1, a2)].map e_api_Coef))]⟩) ?_ ?_
      · try dsimp only
        refine LeS.pick [some 0, some 1, some 2, some 3, some 4] rfl rfl ?_ ?_
        all_goals simp (maxDischargeDepth := 40) only [go_sem, ↓reduceIte, reduceCtorEq, nA, nB, nC, nD, nE, nF, nG, nH, iA, cast0, cast1, lA, lB, lC, lD, lE, mapV_nil, *]
      · intro s2011 qhc2014 hq2013 hc2014 Khc2014 hKhc2014
        try dsimp only at hq2013
        cases h2020 : (decide (s2011.2.2 < ((s2011.1.length : Nat) : Int))) with
        | true =>
          simp only [h2020, ↓reduceIte, Bool.false_eq_true] at hq2013
          obtain ⟨x2021, h2023, r2024⟩ := bindS hq2013
          clear hq2013
          try dsimp only at r2024
          obtain ⟨h2025, _, h2023⟩ := idxO_some h2023
          have h2022 := (List.getElem?_eq_some_iff.1 h2023).1
          cases h2026 : (x2021.2 != (0 : Int)) with
          | true =>
            simp only [h2026, ↓reduceIte, Bool.false_eq_true] at r2024
            have g21 := get_map e_api_Coef h2023
            have g22 := (fun i => Nat.mul_div_cancel i (by decide : 0 < 2))
            simp only [go_sem, ↓reduceIte, reduceCtorEq, nA, nB, nC, nD, nE, nF, nG, nH, iA, Nat.mul_mod_left, *]
            obtain ⟨x2027, h2029, r2030⟩ := bindS r2024
            clear r2024
            try dsimp only at r2030
            obtain ⟨h2031, _, h2029⟩ := idxO_some h2029
            have h2028 := (List.getElem?_eq_some_iff.1 h2029).1
            refine drawS_tail (by kernel_rfl) ?_
            have g23 := get_map e_api_Coef h2029
            simp only [go_sem, ↓reduceIte, reduceCtorEq, nA, nB, nC, nD, nE, nF, nG, nH, iA, Nat.mul_mod_left, Nat.mul_mod_left, *]
            cases r2030
            refine hKhc2014 _ _ rfl ?_
            try dsimp only
            refine LeS.pick [some 0, some 1, some 2, some 3, some 4] rfl rfl ?_ ?_
            all_goals simp (maxDischargeDepth := 40) only [go_sem, ↓reduceIte, reduceCtorEq, nA, nB, nC, nD, nE, nF, nG, nH, iA, cast0, cast1, lA, lB, lC, lD, lE, mapV_nil, Nat.mul_mod_left, Nat.mul_mod_left, *]
          | false =>
            simp only [h2026, ↓reduceIte, Bool.false_eq_true] at r2024
            have g24 := get_map e_api_Coef h2023
            have g25 := (fun i => Nat.mul_div_cancel i (by decide : 0 < 2))
            simp only [go_sem, ↓reduceIte, reduceCtorEq, nA, nB, nC, nD, nE, nF, nG, nH, iA, Nat.mul_mod_left, *]
            cases r2024
            refine hKhc2014 _ _ rfl ?_
            try dsimp only
            refine LeS.pick [some 0, some 1, some 2, some 3, some 4] rfl rfl ?_ ?_
            all_goals simp (maxDischargeDepth := 40) only [go_sem, ↓reduceIte, reduceCtorEq, nA, nB, nC, nD, nE, nF, nG, nH, iA, cast0, cast1, lA, lB, lC, lD, lE, mapV_nil, Nat.mul_mod_left, *]
        | false =>
          simp only [h2020, ↓reduceIte, Bool.false_eq_true] at hq2013
          cases hq2013
          dsimp only [St.on, Sum.elim_inl] at hc2014
          obtain ⟨h2033, r2034⟩ := iffO_some hc2014
          clear hc2014
          simp only [Bool.and_eq_true, decide_eq_true_eq] at h2033
          obtain ⟨h2035, h2036⟩ := h2033
          have h2032 : s2011.2.1.toNat ≤ s2011.1.length := by omega
          simp only [go_sem, ↓reduceIte, reduceCtorEq, nA, nB, nC, nD, nE, nF, nG, nH, iA, *]
          cases r2034
          simp (maxDischargeDepth := 40) only [go_sem, ↓reduceIte, reduceCtorEq, nA, nB, nC, nD, nE, nF, nG, nH, iA, cast0, cast1, lA, lB, lC, lD, lE, mapV_nil, *]

def ref04_Times (a0 : Int × (List (ByteArray × Int))) (a1 : Int × (List (ByteArray × Int))) (a2 : Int) : Option ((Int × (List (ByteArray × Int)))) :=
  iffO (decide (a0.2.length * 24 ≤ 140737488355328))
  ((forC (R := (Int × (List (ByteArray × Int)))) (a1.2.length) (((IntKind.i64.wrap (a0.1 + (IntKind.i64.wrap (a2 * a1.1)))), a0.2) : Int × (List (ByteArray × Int))) fun k2072 s2071 =>
    (a1.2[k2072]?).bind fun x2080 =>
    (ref04_Plus s2071 x2080.1 (IntKind.i64.wrap (a2 * x2080.2))).bind fun y2084 =>
    some (.nx (y2084.1, y2084.2))).bind (Sum.elim (fun s2071 =>
    some s2071) some))
set_option maxHeartbeats 2000000 in
theorem ref04_Times_ok {a0 : Int × (List (ByteArray × Int))} {a1 : Int × (List (ByteArray × Int))} {a2 : Int} {r : (Int × (List (ByteArray × Int)))} (hr : ref04_Times a0 a1 a2 = some r) : Meets Try.prog 56 [.agg [.c (.int .i64 a0.1), .sl false 2 (a0.2.map e_api_Coef)], .agg [.c (.int .i64 a1.1), .sl false 2 (a1.2.map e_api_Coef)], .c (.int .i64 a2)] (.agg [.c (.int .i64 r.1), .sl false 2 (r.2.map e_api_Coef)]) := by
  unfold ref04_Times at hr
  refine meetsV_of (X := true) Ty.mixed Try.func56 (by kernel_rfl) rfl (by kernel_rfl) (by simp) ?_; rw [Try.ntmps56, Try.results56]
  simp only [go_sem, ↓reduceIte, reduceCtorEq, nA, nB, nC, nD, nE, nF, nG, nH, iA, *]
  obtain ⟨h1859, r1860⟩ := iffO_some hr
  clear hr
  simp only [Bool.and_eq_true, decide_eq_true_eq] at h1859
  refine drawS_wild ?_
  simp (config := {maxSteps := 2000000}) only [go_sem, ↓reduceIte, reduceCtorEq, nA, nB, nC, nD, nE, nF, nG, nH, iA, *]
  repeat refine ⟨by first | omega | (simp only [List.length_append, List.length_cons, List.length_nil, List.length_map, Nat.zero_add] at *; omega), ?_⟩
  repeat refine ⟨by first | omega | (simp only [List.length_append, List.length_cons, List.length_nil, List.length_map, Nat.zero_add] at *; omega), ?_⟩
  first | refine ⟨by kernel_rfl, ?_⟩ | skip
  try simp only [go_sem, ↓reduceIte, reduceCtorEq, nA, nB, nC, nD, nE, nF, nG, nH, iA, *]
  refine loop_for r1860 (fun k2072 s2071 => ⟨45, [(2, .c (.int .i64 a2)), (4, .ptr 1 0), (6, .ptr 2 0), (7, .ptr 4 0), (8, .c (.int .i64 (k2072 : Int)))], [some (.var 26 [.c (.int .i64 a0.1), .sl false 2 (a0.2.map e_api_Coef)]), some (.var 26 [.c (.int .i64 a1.1), .sl false 2 (a1.2.map e_api_Coef)]), some (.var 26 [.c (.int .i64 (0 : Int)), .nils]), none, some (.var 26 [.c (.int .i64 s2071.1), .sl false 2 (s2071.2.map e_api_Coef)])]⟩) ?_ ?_ ?_
  · try dsimp only
    refine (LeS.freeze [3]).trans ?_
    try dsimp only
    refine LeS.pick [some 0, some 1, some 2, none, some 4] rfl rfl ?_ ?_
    all_goals simp (maxDischargeDepth := 40) only [go_sem, ↓reduceIte, reduceCtorEq, nA, nB, nC, nD, nE, nF, nG, nH, iA, cast0, cast1, lA, lB, lC, lD, lE, mapV_nil, *]
  · intro k2072 s2071 qhc2074 h2075 h2076 h2077 h2078 hq2073 hc2074 Khc2074 hKhc2074
    try dsimp only at hq2073
    simp only [go_sem, ↓reduceIte, reduceCtorEq, nA, nB, nC, nD, nE, nF, nG, nH, iA, *]
    obtain ⟨x2080, h2081, r2082⟩ := bindS hq2073
    clear hq2073
    try dsimp only at r2082
    refine drawS_wild ?_
    have g26 := get_map e_api_Coef h2081
    simp (config := {maxSteps := 2000000}) only [go_sem, ↓reduceIte, reduceCtorEq, nA, nB, nC, nD, nE, nF, nG, nH, iA, *]
    obtain ⟨y2084, h2085, r2086⟩ := bindS r2082
    clear r2082
    try dsimp only at r2086
    refine callx_meets ((ref04_Plus_ok h2085).le ?_) (by first | (simp (config := {maxSteps := 2000000}) only [go_sem, ↓reduceIte, reduceCtorEq, nA, nB, nC, nD, nE, nF, nG, nH, iA, *] <;> rfl) | rfl) (by simp (config := {maxSteps := 2000000}) only [go_sem, ↓reduceIte, reduceCtorEq, nA, nB, nC, nD, nE, nF, nG, nH, iA, *]) ?_
    · simp (maxDischargeDepth := 40) only [go_sem, ↓reduceIte, reduceCtorEq, nA, nB, nC, nD, nE, nF, nG, nH, iA, cast0, cast1, lA, lB, lC, lD, lE, mapV_nil, *]
    simp (config := {maxSteps := 2000000}) only [go_sem, ↓reduceIte, reduceCtorEq, nA, nB, nC, nD, nE, nF, nG, nH, iA, *]
    repeat refine ⟨by first | omega | (simp only [List.length_append, List.length_cons, List.length_nil, List.length_map, Nat.zero_add] at *; omega), ?_⟩
    first | refine ⟨by kernel_rfl, ?_⟩ | skip
    try simp only [go_sem, ↓reduceIte, reduceCtorEq, nA, nB, nC, nD, nE, nF, nG, nH, iA, *]
    cases r2086
    refine hKhc2074 _ _ rfl ?_
    try dsimp only
    refine LeS.pick [some 0, some 1, some 2, none, some 4] rfl rfl ?_ ?_
    all_goals simp (maxDischargeDepth := 40) only [go_sem, ↓reduceIte, reduceCtorEq, nA, nB, nC, nD, nE, nF, nG, nH, iA, cast0, cast1, lA, lB, lC, lD, lE, mapV_nil, *]
  · clear r1860
    intro s2071 r1860 h2075 h2079 Khc2074
    dsimp only [Sum.elim_inl] at r1860
    simp only [go_sem, ↓reduceIte, reduceCtorEq, nA, nB, nC, nD, nE, nF, nG, nH, iA, *]
    cases r1860
    simp (maxDischargeDepth := 40) only [go_sem, ↓reduceIte, reduceCtorEq, nA, nB, nC, nD, nE, nF, nG, nH, iA, cast0, cast1, lA, lB, lC, lD, lE, mapV_nil, *]

def ref07_combine (a0 : List (Bool × (Int × (List (ByteArray × Int))))) (a1 : List Int) : Option ((Int × (List (ByteArray × Int))) × Bool) :=
  if (((a1.length : Nat) : Int) != ((a0.length : Nat) : Int)) then
  some (((0 : Int), []), false)
else
  (forC (R := (Int × (List (ByteArray × Int))) × Bool) (a1.length) (((0 : Int), []) : Int × (List (ByteArray × Int))) fun k2127 s2126 =>
    (a1[k2127]?).bind fun x2135 =>
    if (decide (x2135 < (-1000000000 : Int))) then
      some (.rt (((0 : Int), []), false))
    else
      if (decide ((1000000000 : Int) < x2135)) then
        some (.rt (((0 : Int), []), false))
      else
        if (decide (x2135 < (0 : Int))) then
          (a0[k2127]?).bind fun x2142 =>
          if x2142.1 then
            if (x2135 != (0 : Int)) then
              (ref04_Times s2126 x2142.2 x2135).bind fun y2148 =>
              some (.nx (y2148.1, y2148.2))
            else
              some (.nx (s2126.1, s2126.2))
          else
            some (.rt (((0 : Int), []), false))
        else
          if (x2135 != (0 : Int)) then
            (a0[k2127]?).bind fun x2152 =>
            (ref04_Times s2126 x2152.2 x2135).bind fun y2156 =>
            some (.nx (y2156.1, y2156.2))
          else
            some (.nx (s2126.1, s2126.2))).bind (Sum.elim (fun s2126 =>
    some (s2126, true)) some)
set_option maxHeartbeats 2000000 in
theorem ref07_combine_ok {a0 : List (Bool × (Int × (List (ByteArray × Int))))} {a1 : List Int} {r : (Int × (List (ByteArray × Int))) × Bool} (hr : ref07_combine a0 a1 = some r) : Meets Try.prog 44 [.sl false 3 (a0.map e_api_Fact), .sl false 1 (a1.map e_int)] (.tup [.agg [.c (.int .i64 r.1.1), .sl false 2 (r.1.2.map e_api_Coef)], .c (.bool r.2)]) := by
  unfold ref07_combine at hr
  refine meetsV_of (X := true) Ty.mixed Try.func44 (by kernel_rfl) rfl (by kernel_rfl) (by simp) ?_; rw [Try.ntmps44, Try.results44]
  cases h1844 : (((a1.length : Nat) : Int) != ((a0.length : Nat) : Int)) with
  | true =>
    simp only [h1844, ↓reduceIte, Bool.false_eq_true] at hr
    simp only [go_sem, ↓reduceIte, reduceCtorEq, nA, nB, nC, nD, nE, nF, nG, nH, iA, *]
    cases hr
    simp (maxDischargeDepth := 40) only [go_sem, ↓reduceIte, reduceCtorEq, nA, nB, nC, nD, nE, nF, nG, nH, iA, cast0, cast1, lA, lB, lC, lD, lE, mapV_nil, *]
  | false =>
    simp only [h1844, ↓reduceIte, Bool.false_eq_true] at hr
    simp only [go_sem, ↓reduceIte, reduceCtorEq, nA, nB, nC, nD, nE, nF, nG, nH, iA, *]
    refine loop_for hr (fun k2127 s2126 => ⟨65, [(0, .sl false 3 (a0.map e_api_Fact)), (1, .sl false 1 (a1.map e_int)), (4, .ptr 0 0), (6, .ptr 1 0), (7, .c (.int .i64 (k2127 : Int)))], [some (.var 26 [.c (.int .i64 (0 : Int)), .nils]), some (.var 26 [.c (.int .i64 s2126.1), .sl false 2 (s2126.2.map e_api_Coef)])]⟩) ?_ ?_ ?_
    · try dsimp only
      refine LeS.pick [some 0, some 1] rfl rfl ?_ ?_
      all_goals simp (maxDischargeDepth := 40) only [go_sem, ↓reduceIte, reduceCtorEq, nA, nB, nC, nD, nE, nF, nG, nH, iA, cast0, cast1, lA, lB, lC, lD, lE, mapV_nil, *]
    · intro k2127 s2126 qhc2129 h2130 h2131 h2132 h2133 hq2128 hc2129 Khc2129 hKhc2129
      try dsimp only at hq2128
      obtain ⟨x2135, h2136, r2137⟩ := bindS hq2128
      clear hq2128
      try dsimp only at r2137
      cases h2139 : (decide (x2135 < (-1000000000 : Int))) with
      | true =>
        simp only [h2139, ↓reduceIte, Bool.false_eq_true] at r2137
        have g27 := get_map e_int h2136
        simp only [go_sem, ↓reduceIte, reduceCtorEq, nA, nB, nC, nD, nE, nF, nG, nH, iA, *]
        cases r2137
        dsimp only [St.on, Sum.elim_inr] at hc2129
        cases hc2129
        simp (maxDischargeDepth := 40) only [go_sem, ↓reduceIte, reduceCtorEq, nA, nB, nC, nD, nE, nF, nG, nH, iA, cast0, cast1, lA, lB, lC, lD, lE, mapV_nil, *]
      | false =>
        simp only [h2139, ↓reduceIte, Bool.false_eq_true] at r2137
        cases h2140 : (decide ((1000000000 : Int) < x2135)) with
        | true =>
          simp only [h2140, ↓reduceIte, Bool.false_eq_true] at r2137
          have g28 := get_map e_int h2136
          simp only [go_sem, ↓reduceIte, reduceCtorEq, nA, nB, nC, nD, nE, nF, nG, nH, iA, *]
          cases r2137
          dsimp only [St.on, Sum.elim_inr] at hc2129
          cases hc2129
          simp (maxDischargeDepth := 40) only [go_sem, ↓reduceIte, reduceCtorEq, nA, nB, nC, nD, nE, nF, nG, nH, iA, cast0, cast1, lA, lB, lC, lD, lE, mapV_nil, *]
        | false =>
          simp only [h2140, ↓reduceIte, Bool.false_eq_true] at r2137
          cases h2141 : (decide (x2135 < (0 : Int))) with
          | true =>
            simp only [h2141, ↓reduceIte, Bool.false_eq_true] at r2137
            obtain ⟨x2142, h2143, r2144⟩ := bindS r2137
            clear r2137
            try dsimp only at r2144
            cases h2146 : x2142.1 with
            | true =>
              simp only [h2146, ↓reduceIte, Bool.false_eq_true] at r2144
              cases h2147 : (x2135 != (0 : Int)) with
              | true =>
                simp only [h2147, ↓reduceIte, Bool.false_eq_true] at r2144
                have g29 := get_map e_int h2136
                have g30 := get_map e_api_Fact h2143
                simp only [go_sem, ↓reduceIte, reduceCtorEq, nA, nB, nC, nD, nE, nF, nG, nH, iA, *]
                refine drawS_tail (by kernel_rfl) ?_
                simp only [go_sem, ↓reduceIte, reduceCtorEq, nA, nB, nC, nD, nE, nF, nG, nH, iA, *]
                obtain ⟨y2148, h2149, r2150⟩ := bindS r2144
                clear r2144
                try dsimp only at r2150
                refine calld_meets ((ref04_Times_ok h2149).le ?_) (by first | (simp only [go_sem, ↓reduceIte, reduceCtorEq, nA, nB, nC, nD, nE, nF, nG, nH, iA, *] <;> rfl) | rfl) (by simp only [go_sem, ↓reduceIte, reduceCtorEq, nA, nB, nC, nD, nE, nF, nG, nH, iA, *]) ?_
                · simp (maxDischargeDepth := 40) only [go_sem, ↓reduceIte, reduceCtorEq, nA, nB, nC, nD, nE, nF, nG, nH, iA, cast0, cast1, lA, lB, lC, lD, lE, mapV_nil, *]
                simp only [go_sem, ↓reduceIte, reduceCtorEq, nA, nB, nC, nD, nE, nF, nG, nH, iA, *]
                cases r2150
                refine hKhc2129 _ _ rfl ?_
                try dsimp only
                refine LeS.pick [some 0, some 1] rfl rfl ?_ ?_
                all_goals simp (maxDischargeDepth := 40) only [go_sem, ↓reduceIte, reduceCtorEq, nA, nB, nC, nD, nE, nF, nG, nH, iA, cast0, cast1, lA, lB, lC, lD, lE, mapV_nil, *]
              | false =>
                simp only [h2147, ↓reduceIte, Bool.false_eq_true] at r2144
                have g31 := get_map e_int h2136
                have g32 := get_map e_api_Fact h2143
                simp only [go_sem, ↓reduceIte, reduceCtorEq, nA, nB, nC, nD, nE, nF, nG, nH, iA, *]
                cases r2144
                refine hKhc2129 _ _ rfl ?_
                try dsimp only
                refine LeS.pick [some 0, some 1] rfl rfl ?_ ?_
                all_goals simp (maxDischargeDepth := 40) only [go_sem, ↓reduceIte, reduceCtorEq, nA, nB, nC, nD, nE, nF, nG, nH, iA, cast0, cast1, lA, lB, lC, lD, lE, mapV_nil, *]
            | false =>
              simp only [h2146, ↓reduceIte, Bool.false_eq_true] at r2144
              have g33 := get_map e_int h2136
              have g34 := get_map e_api_Fact h2143
              simp only [go_sem, ↓reduceIte, reduceCtorEq, nA, nB, nC, nD, nE, nF, nG, nH, iA, *]
              cases r2144
              dsimp only [St.on, Sum.elim_inr] at hc2129
              cases hc2129
              simp (maxDischargeDepth := 40) only [go_sem, ↓reduceIte, reduceCtorEq, nA, nB, nC, nD, nE, nF, nG, nH, iA, cast0, cast1, lA, lB, lC, lD, lE, mapV_nil, *]
          | false =>
            simp only [h2141, ↓reduceIte, Bool.false_eq_true] at r2137
            cases h2151 : (x2135 != (0 : Int)) with
            | true =>
              simp only [h2151, ↓reduceIte, Bool.false_eq_true] at r2137
              have g35 := get_map e_int h2136
              simp only [go_sem, ↓reduceIte, reduceCtorEq, nA, nB, nC, nD, nE, nF, nG, nH, iA, *]
              obtain ⟨x2152, h2153, r2154⟩ := bindS r2137
              clear r2137
              try dsimp only at r2154
              refine drawS_tail (by kernel_rfl) ?_
              have g36 := get_map e_api_Fact h2153
              simp only [go_sem, ↓reduceIte, reduceCtorEq, nA, nB, nC, nD, nE, nF, nG, nH, iA, *]
              obtain ⟨y2156, h2157, r2158⟩ := bindS r2154
              clear r2154
              try dsimp only at r2158
              refine calld_meets ((ref04_Times_ok h2157).le ?_) (by first | (simp only [go_sem, ↓reduceIte, reduceCtorEq, nA, nB, nC, nD, nE, nF, nG, nH, iA, *] <;> rfl) | rfl) (by simp only [go_sem, ↓reduceIte, reduceCtorEq, nA, nB, nC, nD, nE, nF, nG, nH, iA, *]) ?_
              · simp (maxDischargeDepth := 40) only [go_sem, ↓reduceIte, reduceCtorEq, nA, nB, nC, nD, nE, nF, nG, nH, iA, cast0, cast1, lA, lB, lC, lD, lE, mapV_nil, *]
              simp only [go_sem, ↓reduceIte, reduceCtorEq, nA, nB, nC, nD, nE, nF, nG, nH, iA, *]
              cases r2158
              refine hKhc2129 _ _ rfl ?_
              try dsimp only
              refine LeS.pick [some 0, some 1] rfl rfl ?_ ?_
              all_goals simp (maxDischargeDepth := 40) only [go_sem, ↓reduceIte, reduceCtorEq, nA, nB, nC, nD, nE, nF, nG, nH, iA, cast0, cast1, lA, lB, lC, lD, lE, mapV_nil, *]
            | false =>
              simp only [h2151, ↓reduceIte, Bool.false_eq_true] at r2137
              have g37 := get_map e_int h2136
              simp only [go_sem, ↓reduceIte, reduceCtorEq, nA, nB, nC, nD, nE, nF, nG, nH, iA, *]
              cases r2137
              refine hKhc2129 _ _ rfl ?_
              try dsimp only
              refine LeS.pick [some 0, some 1] rfl rfl ?_ ?_
              all_goals simp (maxDischargeDepth := 40) only [go_sem, ↓reduceIte, reduceCtorEq, nA, nB, nC, nD, nE, nF, nG, nH, iA, cast0, cast1, lA, lB, lC, lD, lE, mapV_nil, *]
    · clear hr
      intro s2126 hr h2130 h2134 Khc2129
      dsimp only [Sum.elim_inl] at hr
      simp only [go_sem, ↓reduceIte, reduceCtorEq, nA, nB, nC, nD, nE, nF, nG, nH, iA, *]
      cases hr
      simp (maxDischargeDepth := 40) only [go_sem, ↓reduceIte, reduceCtorEq, nA, nB, nC, nD, nE, nF, nG, nH, iA, cast0, cast1, lA, lB, lC, lD, lE, mapV_nil, *]

def ref03_In (a0 : Int) : Option Bool :=
  if (decide ((-4611686018427387904 : Int) ≤ a0)) then
  some (decide (a0 ≤ (4611686018427387904 : Int)))
else
  some false
set_option maxHeartbeats 2000000 in
theorem ref03_In_ok {a0 : Int} {r : Bool} (hr : ref03_In a0 = some r) : Meets Try.prog 70 [.c (.int .i64 a0)] (.c (.bool r)) := by
  unfold ref03_In at hr
  refine meetsV_of (X := true) Ty.mixed Try.func70 (by kernel_rfl) rfl (by kernel_rfl) (by simp) ?_; rw [Try.ntmps70, Try.results70]
  cases h2179 : (decide ((-4611686018427387904 : Int) ≤ a0)) with
  | true =>
    simp only [h2179, ↓reduceIte, Bool.false_eq_true] at hr
    simp only [go_sem, ↓reduceIte, reduceCtorEq, nA, nB, nC, nD, nE, nF, nG, nH, iA, *]
    cases hr
    simp (maxDischargeDepth := 40) only [go_sem, ↓reduceIte, reduceCtorEq, nA, nB, nC, nD, nE, nF, nG, nH, iA, cast0, cast1, lA, lB, lC, lD, lE, mapV_nil, *]
  | false =>
    simp only [h2179, ↓reduceIte, Bool.false_eq_true] at hr
    simp only [go_sem, ↓reduceIte, reduceCtorEq, nA, nB, nC, nD, nE, nF, nG, nH, iA, *]
    cases hr
    simp (maxDischargeDepth := 40) only [go_sem, ↓reduceIte, reduceCtorEq, nA, nB, nC, nD, nE, nF, nG, nH, iA, cast0, cast1, lA, lB, lC, lD, lE, mapV_nil, *]

def ref03_abs (a0 : Int) : Option Int :=
  if (decide (a0 < (0 : Int))) then
  some (IntKind.i64.wrap (0 - a0))
else
  some a0
set_option maxHeartbeats 2000000 in
theorem ref03_abs_ok {a0 : Int} {r : Int} (hr : ref03_abs a0 = some r) : Meets Try.prog 71 [.c (.int .i64 a0)] (.c (.int .i64 r)) := by
  unfold ref03_abs at hr
  refine meetsV_of (X := true) Ty.mixed Try.func71 (by kernel_rfl) rfl (by kernel_rfl) (by simp) ?_; rw [Try.ntmps71, Try.results71]
  cases h2188 : (decide (a0 < (0 : Int))) with
  | true =>
    simp only [h2188, ↓reduceIte, Bool.false_eq_true] at hr
    simp only [go_sem, ↓reduceIte, reduceCtorEq, nA, nB, nC, nD, nE, nF, nG, nH, iA, *]
    cases hr
    simp (maxDischargeDepth := 40) only [go_sem, ↓reduceIte, reduceCtorEq, nA, nB, nC, nD, nE, nF, nG, nH, iA, cast0, cast1, lA, lB, lC, lD, lE, mapV_nil, *]
  | false =>
    simp only [h2188, ↓reduceIte, Bool.false_eq_true] at hr
    simp only [go_sem, ↓reduceIte, reduceCtorEq, nA, nB, nC, nD, nE, nF, nG, nH, iA, *]
    cases hr
    simp (maxDischargeDepth := 40) only [go_sem, ↓reduceIte, reduceCtorEq, nA, nB, nC, nD, nE, nF, nG, nH, iA, cast0, cast1, lA, lB, lC, lD, lE, mapV_nil, *]

def ref03_Gcd (a0 : Int) (a1 : Int) : Option (Int × Int) :=
  (ref03_In a0).bind fun y2180 =>
if y2180 then
  (ref03_In a1).bind fun y2184 =>
  if y2184 then
    (ref03_abs a0).bind fun y2189 =>
    (ref03_abs a1).bind fun y2192 =>
    (whlC (R := Int × Int) ((y2189, y2192) : Int × Int) fun s2203 =>
      if (decide ((0 : Int) < s2203.2)) then
        iffO (decide (s2203.2 ≠ 0))
          (some (.nx (s2203.2, (s2203.1.tmod s2203.2))))
      else
        some (.br (s2203.1, s2203.2))).bind (Sum.elim (fun s2203 =>
      some (s2203.1, (0 : Int))) some)
  else
    some ((0 : Int), (2 : Int))
else
  some ((0 : Int), (2 : Int))
set_option maxHeartbeats 2000000 in
theorem ref03_Gcd_ok {a0 : Int} {a1 : Int} {r : Int × Int} (hr : ref03_Gcd a0 a1 = some r) : Meets Try.prog 45 [.c (.int .i64 a0), .c (.int .i64 a1)] (.tup [.c (.int .i64 r.1), .c (.int .i64 r.2)]) := by
  unfold ref03_Gcd at hr
  refine meetsV_of (X := true) Ty.mixed Try.func45 (by kernel_rfl) rfl (by kernel_rfl) (by simp) ?_; rw [Try.ntmps45, Try.results45]
  simp only [go_sem, ↓reduceIte, reduceCtorEq, nA, nB, nC, nD, nE, nF, nG, nH, iA, *]
  obtain ⟨y2180, h2181, r2182⟩ := bindS hr
  clear hr
  try dsimp only at r2182
  cases h2183 : y2180 with
  | true =>
    simp only [h2183, ↓reduceIte, Bool.false_eq_true] at r2182
    refine call_meets ((ref03_In_ok h2181).le ?_) (by first | (simp only [go_sem, ↓reduceIte, reduceCtorEq, nA, nB, nC, nD, nE, nF, nG, nH, iA, *] <;> rfl) | rfl) ?_
    · simp (maxDischargeDepth := 40) only [go_sem, ↓reduceIte, reduceCtorEq, nA, nB, nC, nD, nE, nF, nG, nH, iA, cast0, cast1, lA, lB, lC, lD, lE, mapV_nil, *]
    simp only [go_sem, ↓reduceIte, reduceCtorEq, nA, nB, nC, nD, nE, nF, nG, nH, iA, *]
    obtain ⟨y2184, h2185, r2186⟩ := bindS r2182
    clear r2182
    try dsimp only at r2186
    cases h2187 : y2184 with
    | true =>
      simp only [h2187, ↓reduceIte, Bool.false_eq_true] at r2186
      refine call_meets ((ref03_In_ok h2185).le ?_) (by first | (simp only [go_sem, ↓reduceIte, reduceCtorEq, nA, nB, nC, nD, nE, nF, nG, nH, iA, *] <;> rfl) | rfl) ?_
      · simp (maxDischargeDepth := 40) only [go_sem, ↓reduceIte, reduceCtorEq, nA, nB, nC, nD, nE, nF, nG, nH, iA, cast0, cast1, lA, lB, lC, lD, lE, mapV_nil, *]
      simp only [go_sem, ↓reduceIte, reduceCtorEq, nA, nB, nC, nD, nE, nF, nG, nH, iA, *]
      obtain ⟨y2189, h2190, r2191⟩ := bindS r2186
      clear r2186
      try dsimp only at r2191
      refine call_meets ((ref03_abs_ok h2190).le ?_) (by first | (simp only [go_sem, ↓reduceIte, reduceCtorEq, nA, nB, nC, nD, nE, nF, nG, nH, iA, *] <;> rfl) | rfl) ?_
      · simp (maxDischargeDepth := 40) only [go_sem, ↓reduceIte, reduceCtorEq, nA, nB, nC, nD, nE, nF, nG, nH, iA, cast0, cast1, lA, lB, lC, lD, lE, mapV_nil, *]
      simp only [go_sem, ↓reduceIte, reduceCtorEq, nA, nB, nC, nD, nE, nF, nG, nH, iA, *]
      obtain ⟨y2192, h2193, r2194⟩ := bindS r2191
      clear r2191
      try dsimp only at r2194
      refine call_meets ((ref03_abs_ok h2193).le ?_) (by first | (simp only [go_sem, ↓reduceIte, reduceCtorEq, nA, nB, nC, nD, nE, nF, nG, nH, iA, *] <;> rfl) | rfl) ?_
      · simp (maxDischargeDepth := 40) only [go_sem, ↓reduceIte, reduceCtorEq, nA, nB, nC, nD, nE, nF, nG, nH, iA, cast0, cast1, lA, lB, lC, lD, lE, mapV_nil, *]
      simp only [go_sem, ↓reduceIte, reduceCtorEq, nA, nB, nC, nD, nE, nF, nG, nH, iA, *]
      refine loop_whl r2194 (fun s2203 => ⟨25, [(0, .c (.int .i64 s2203.1)), (1, .c (.int .i64 s2203.2))], []⟩) ?_ ?_
      · try dsimp only
        refine LeS.pick [] rfl rfl ?_ ?_
        all_goals simp (maxDischargeDepth := 40) only [go_sem, ↓reduceIte, reduceCtorEq, nA, nB, nC, nD, nE, nF, nG, nH, iA, cast0, cast1, lA, lB, lC, lD, lE, mapV_nil, *]
      · intro s2203 qhc2206 hq2205 hc2206 Khc2206 hKhc2206
        try dsimp only at hq2205
        cases h2212 : (decide ((0 : Int) < s2203.2)) with
        | true =>
          simp only [h2212, ↓reduceIte, Bool.false_eq_true] at hq2205
          simp only [go_sem, ↓reduceIte, reduceCtorEq, nA, nB, nC, nD, nE, nF, nG, nH, iA, *]
          obtain ⟨h2213, r2214⟩ := iffO_some hq2205
          clear hq2205
          simp only [Bool.and_eq_true, decide_eq_true_eq] at h2213
          refine drawS_tail (by kernel_rfl) ?_
          simp only [go_sem, ↓reduceIte, reduceCtorEq, nA, nB, nC, nD, nE, nF, nG, nH, iA, *]
          cases r2214
          refine hKhc2206 _ _ rfl ?_
          try dsimp only
          refine LeS.pick [] rfl rfl ?_ ?_
          all_goals simp (maxDischargeDepth := 40) only [go_sem, ↓reduceIte, reduceCtorEq, nA, nB, nC, nD, nE, nF, nG, nH, iA, cast0, cast1, lA, lB, lC, lD, lE, mapV_nil, *]
        | false =>
          simp only [h2212, ↓reduceIte, Bool.false_eq_true] at hq2205
          cases hq2205
          dsimp only [St.on, Sum.elim_inl] at hc2206
          simp only [go_sem, ↓reduceIte, reduceCtorEq, nA, nB, nC, nD, nE, nF, nG, nH, iA, *]
          cases hc2206
          simp (maxDischargeDepth := 40) only [go_sem, ↓reduceIte, reduceCtorEq, nA, nB, nC, nD, nE, nF, nG, nH, iA, cast0, cast1, lA, lB, lC, lD, lE, mapV_nil, *]
    | false =>
      simp only [h2187, ↓reduceIte, Bool.false_eq_true] at r2186
      refine call_meets ((ref03_In_ok h2185).le ?_) (by first | (simp only [go_sem, ↓reduceIte, reduceCtorEq, nA, nB, nC, nD, nE, nF, nG, nH, iA, *] <;> rfl) | rfl) ?_
      · simp (maxDischargeDepth := 40) only [go_sem, ↓reduceIte, reduceCtorEq, nA, nB, nC, nD, nE, nF, nG, nH, iA, cast0, cast1, lA, lB, lC, lD, lE, mapV_nil, *]
      simp only [go_sem, ↓reduceIte, reduceCtorEq, nA, nB, nC, nD, nE, nF, nG, nH, iA, *]
      cases r2186
      simp (maxDischargeDepth := 40) only [go_sem, ↓reduceIte, reduceCtorEq, nA, nB, nC, nD, nE, nF, nG, nH, iA, cast0, cast1, lA, lB, lC, lD, lE, mapV_nil, *]
  | false =>
    simp only [h2183, ↓reduceIte, Bool.false_eq_true] at r2182
    refine call_meets ((ref03_In_ok h2181).le ?_) (by first | (simp only [go_sem, ↓reduceIte, reduceCtorEq, nA, nB, nC, nD, nE, nF, nG, nH, iA, *] <;> rfl) | rfl) ?_
    · simp (maxDischargeDepth := 40) only [go_sem, ↓reduceIte, reduceCtorEq, nA, nB, nC, nD, nE, nF, nG, nH, iA, cast0, cast1, lA, lB, lC, lD, lE, mapV_nil, *]
    simp only [go_sem, ↓reduceIte, reduceCtorEq, nA, nB, nC, nD, nE, nF, nG, nH, iA, *]
    cases r2182
    simp (maxDischargeDepth := 40) only [go_sem, ↓reduceIte, reduceCtorEq, nA, nB, nC, nD, nE, nF, nG, nH, iA, cast0, cast1, lA, lB, lC, lD, lE, mapV_nil, *]

set_option maxHeartbeats 2000000 in
theorem ref04_Plus_okO {a0 : Int × (List (ByteArray × Int))} {a1 : ByteArray} {a2 : Int} {r : (Int × (List (ByteArray × Int)))} (hr : ref04_Plus a0 a1 a2 = some r) : MeetsO Try.prog 36 [.agg [.c (.int .i64 a0.1), .sl false 2 (a0.2.map e_api_Coef)], .c (.string a1), .c (.int .i64 a2)] (.agg [.c (.int .i64 r.1), .own 0 2 (r.2.length)]) [some (.row 71 2 (r.2.map e_api_Coef))] := by
  unfold ref04_Plus at hr
  refine meetsG_of (X := true) Ty.mixed Try.func36 (by kernel_rfl) rfl (by kernel_rfl) (by simp) ?_; rw [Try.ntmps36, Try.results36]
  simp only [go_sem, ↓reduceIte, reduceCtorEq, nA, nB, nC, nD, nE, nF, nG, nH, iA, *]
  refine loop_for hr (fun k2329 s2328 => ⟨100, [(1, .c (.string a1)), (2, .c (.int .i64 a2)), (3, .ptr 0 0), (6, .ptr 1 0), (7, .ptr 2 0), (8, .c (.bool s2328.2)), (9, .c (.int .i64 (k2329 : Int)))], [some (.var 26 [.c (.int .i64 a0.1), .sl false 2 (a0.2.map e_api_Coef)]), some (.var 26 [.c (.int .i64 (0 : Int)), .nils]), some (.var 26 [.c (.int .i64 a0.1), .own 3 2 s2328.1.length]), some (.row 71 2 (s2328.1.map e_api_Coef))]⟩) ?_ ?_ ?_
  · try dsimp only
    refine LeS.pick [some 0, some 1, some 2, none] rfl rfl ?_ ?_
    all_goals simp (maxDischargeDepth := 40) only [go_sem, ↓reduceIte, reduceCtorEq, nA, nB, nC, nD, nE, nF, nG, nH, iA, cast0, cast1, lA, lB, lC, lD, lE, mapV_nil, *]
  · intro k2329 s2328 qhc2331 h2332 h2333 h2334 h2335 hq2330 hc2331 Khc2331 hKhc2331
    try dsimp only at hq2330
    obtain ⟨x2337, h2338, r2339⟩ := bindS hq2330
    clear hq2330
    try dsimp only at r2339
    cases h2341 : s2328.2 with
    | true =>
      simp only [h2341, ↓reduceIte, Bool.false_eq_true] at r2339
      cases h2342 : (eqB x2337.1 a1) with
      | true =>
        simp only [h2342, ↓reduceIte, Bool.false_eq_true] at r2339
        obtain ⟨h2343, r2344⟩ := iffO_some r2339
        clear r2339
        simp only [Bool.and_eq_true, decide_eq_true_eq] at h2343
        have g38 := get_map e_api_Coef h2338
        simp only [go_sem, ↓reduceIte, reduceCtorEq, nA, nB, nC, nD, nE, nF, nG, nH, iA, *]
        repeat refine ⟨by first | omega | (simp only [List.length_append, List.length_cons, List.length_nil, List.length_map, Nat.zero_add] at *; omega), ?_⟩
        cases r2344
        refine hKhc2331 _ _ rfl ?_
        try dsimp only
        refine LeS.pick [some 0, some 1, some 2, some 3] rfl rfl ?_ ?_
        all_goals simp (maxDischargeDepth := 40) only [go_sem, ↓reduceIte, reduceCtorEq, nA, nB, nC, nD, nE, nF, nG, nH, iA, cast0, cast1, lA, lB, lC, lD, lE, mapV_nil, *]
      | false =>
        simp only [h2342, ↓reduceIte, Bool.false_eq_true] at r2339
        obtain ⟨h2345, r2346⟩ := iffO_some r2339
        clear r2339
        simp only [Bool.and_eq_true, decide_eq_true_eq] at h2345
        have g39 := get_map e_api_Coef h2338
        simp only [go_sem, ↓reduceIte, reduceCtorEq, nA, nB, nC, nD, nE, nF, nG, nH, iA, *]
        repeat refine ⟨by first | omega | (simp only [List.length_append, List.length_cons, List.length_nil, List.length_map, Nat.zero_add] at *; omega), ?_⟩
        cases r2346
        refine hKhc2331 _ _ rfl ?_
        try dsimp only
        refine LeS.pick [some 0, some 1, some 2, some 3] rfl rfl ?_ ?_
        all_goals simp (maxDischargeDepth := 40) only [go_sem, ↓reduceIte, reduceCtorEq, nA, nB, nC, nD, nE, nF, nG, nH, iA, cast0, cast1, lA, lB, lC, lD, lE, mapV_nil, *]
    | false =>
      simp only [h2341, ↓reduceIte, Bool.false_eq_true] at r2339
      cases h2347 : (lessB x2337.1 a1) with
      | true =>
        simp only [h2347, ↓reduceIte, Bool.false_eq_true] at r2339
        cases h2348 : (eqB x2337.1 a1) with
        | true =>
          simp only [h2348, ↓reduceIte, Bool.false_eq_true] at r2339
          obtain ⟨h2349, r2350⟩ := iffO_some r2339
          clear r2339
          simp only [Bool.and_eq_true, decide_eq_true_eq] at h2349
          have g40 := get_map e_api_Coef h2338
          simp only [go_sem, ↓reduceIte, reduceCtorEq, nA, nB, nC, nD, nE, nF, nG, nH, iA, *]
          repeat refine ⟨by first | omega | (simp only [List.length_append, List.length_cons, List.length_nil, List.length_map, Nat.zero_add] at *; omega), ?_⟩
          cases r2350
          refine hKhc2331 _ _ rfl ?_
          try dsimp only
          refine LeS.pick [some 0, some 1, some 2, some 3] rfl rfl ?_ ?_
          all_goals simp (maxDischargeDepth := 40) only [go_sem, ↓reduceIte, reduceCtorEq, nA, nB, nC, nD, nE, nF, nG, nH, iA, cast0, cast1, lA, lB, lC, lD, lE, mapV_nil, *]
        | false =>
          simp only [h2348, ↓reduceIte, Bool.false_eq_true] at r2339
          obtain ⟨h2351, r2352⟩ := iffO_some r2339
          clear r2339
          simp only [Bool.and_eq_true, decide_eq_true_eq] at h2351
          have g41 := get_map e_api_Coef h2338
          simp only [go_sem, ↓reduceIte, reduceCtorEq, nA, nB, nC, nD, nE, nF, nG, nH, iA, *]
          repeat refine ⟨by first | omega | (simp only [List.length_append, List.length_cons, List.length_nil, List.length_map, Nat.zero_add] at *; omega), ?_⟩
          cases r2352
          refine hKhc2331 _ _ rfl ?_
          try dsimp only
          refine LeS.pick [some 0, some 1, some 2, some 3] rfl rfl ?_ ?_
          all_goals simp (maxDischargeDepth := 40) only [go_sem, ↓reduceIte, reduceCtorEq, nA, nB, nC, nD, nE, nF, nG, nH, iA, cast0, cast1, lA, lB, lC, lD, lE, mapV_nil, *]
      | false =>
        simp only [h2347, ↓reduceIte, Bool.false_eq_true] at r2339
        cases h2353 : (eqB x2337.1 a1) with
        | true =>
          simp only [h2353, ↓reduceIte, Bool.false_eq_true] at r2339
          obtain ⟨h2354, r2355⟩ := iffO_some r2339
          clear r2339
          simp only [Bool.and_eq_true, decide_eq_true_eq] at h2354
          have g42 := get_map e_api_Coef h2338
          simp only [go_sem, ↓reduceIte, reduceCtorEq, nA, nB, nC, nD, nE, nF, nG, nH, iA, *]
          repeat refine ⟨by first | omega | (simp only [List.length_append, List.length_cons, List.length_nil, List.length_map, Nat.zero_add] at *; omega), ?_⟩
          cases r2355
          refine hKhc2331 _ _ rfl ?_
          try dsimp only
          refine LeS.pick [some 0, some 1, some 2, some 3] rfl rfl ?_ ?_
          all_goals simp (maxDischargeDepth := 40) only [go_sem, ↓reduceIte, reduceCtorEq, nA, nB, nC, nD, nE, nF, nG, nH, iA, cast0, cast1, lA, lB, lC, lD, lE, mapV_nil, *]
        | false =>
          simp only [h2353, ↓reduceIte, Bool.false_eq_true] at r2339
          obtain ⟨h2356, r2357⟩ := iffO_some r2339
          clear r2339
          simp only [Bool.and_eq_true, decide_eq_true_eq] at h2356
          obtain ⟨h2358, r2359⟩ := iffO_some r2357
          clear r2357
          simp only [Bool.and_eq_true, decide_eq_true_eq] at h2358
          have g43 := get_map e_api_Coef h2338
          simp only [go_sem, ↓reduceIte, reduceCtorEq, nA, nB, nC, nD, nE, nF, nG, nH, iA, *]
          repeat refine ⟨by first | omega | (simp only [List.length_append, List.length_cons, List.length_nil, List.length_map, Nat.zero_add] at *; omega), ?_⟩
          cases r2359
          refine hKhc2331 _ _ rfl ?_
          try dsimp only
          refine LeS.pick [some 0, some 1, some 2, some 3] rfl rfl ?_ ?_
          all_goals simp (maxDischargeDepth := 40) only [go_sem, ↓reduceIte, reduceCtorEq, nA, nB, nC, nD, nE, nF, nG, nH, iA, cast0, cast1, lA, lB, lC, lD, lE, mapV_nil, *]
  · clear hr
    intro s2328 hr h2332 h2336 Khc2331
    dsimp only [Sum.elim_inl] at hr
    cases h2360 : s2328.2 with
    | true =>
      simp only [h2360, ↓reduceIte, Bool.false_eq_true] at hr
      simp only [go_sem, ↓reduceIte, reduceCtorEq, nA, nB, nC, nD, nE, nF, nG, nH, iA, *]
      refine loop_whl hr (fun s2382 => ⟨100, [(6, .ptr 1 0), (7, .ptr 2 0), (11, .c (.int .i64 s2382.2.1)), (12, .c (.int .i64 s2382.2.2))], [some (.var 26 [.c (.int .i64 a0.1), .sl false 2 (a0.2.map e_api_Coef)]), some (.var 26 [.c (.int .i64 (0 : Int)), .nils]), some (.var 26 [.c (.int .i64 a0.1), .own 3 2 s2382.1.length]), some (.row 71 2 (s2382.1.map e_api_Coef))]⟩) ?_ ?_
      · try dsimp only
        refine LeS.pick [some 0, some 1, some 2, some 3] rfl rfl ?_ ?_
        all_goals simp (maxDischargeDepth := 40) only [go_sem, ↓reduceIte, reduceCtorEq, nA, nB, nC, nD, nE, nF, nG, nH, iA, cast0, cast1, lA, lB, lC, lD, lE, mapV_nil, *]
      · intro s2382 qhc2385 hq2384 hc2385 Khc2385 hKhc2385
        try dsimp only at hq2384
        cases h2391 : (decide (s2382.2.2 < ((s2382.1.length : Nat) : Int))) with
        | true =>
          simp only [h2391, ↓reduceIte, Bool.false_eq_true] at hq2384
          obtain ⟨x2392, h2394, r2395⟩ := bindS hq2384
          clear hq2384
          try dsimp only at r2395
          obtain ⟨h2396, _, h2394⟩ := idxO_some h2394
          have h2393 := (List.getElem?_eq_some_iff.1 h2394).1
          cases h2397 : (x2392.2 != (0 : Int)) with
          | true =>
            simp only [h2397, ↓reduceIte, Bool.false_eq_true] at r2395
            have g44 := get_map e_api_Coef h2394
            have g45 := (fun i => Nat.mul_div_cancel i (by decide : 0 < 2))
            simp only [go_sem, ↓reduceIte, reduceCtorEq, nA, nB, nC, nD, nE, nF, nG, nH, iA, Nat.mul_mod_left, *]
            obtain ⟨x2398, h2400, r2401⟩ := bindS r2395
            clear r2395
            try dsimp only at r2401
            obtain ⟨h2402, _, h2400⟩ := idxO_some h2400
            have h2399 := (List.getElem?_eq_some_iff.1 h2400).1
            refine drawS_tail (by kernel_rfl) ?_
            have g46 := get_map e_api_Coef h2400
            simp only [go_sem, ↓reduceIte, reduceCtorEq, nA, nB, nC, nD, nE, nF, nG, nH, iA, Nat.mul_mod_left, Nat.mul_mod_left, *]
            cases r2401
            refine hKhc2385 _ _ rfl ?_
            try dsimp only
            refine LeS.pick [some 0, some 1, some 2, some 3] rfl rfl ?_ ?_
            all_goals simp (maxDischargeDepth := 40) only [go_sem, ↓reduceIte, reduceCtorEq, nA, nB, nC, nD, nE, nF, nG, nH, iA, cast0, cast1, lA, lB, lC, lD, lE, mapV_nil, Nat.mul_mod_left, Nat.mul_mod_left, *]
          | false =>
            simp only [h2397, ↓reduceIte, Bool.false_eq_true] at r2395
            have g47 := get_map e_api_Coef h2394
            have g48 := (fun i => Nat.mul_div_cancel i (by decide : 0 < 2))
            simp only [go_sem, ↓reduceIte, reduceCtorEq, nA, nB, nC, nD, nE, nF, nG, nH, iA, Nat.mul_mod_left, *]
            cases r2395
            refine hKhc2385 _ _ rfl ?_
            try dsimp only
            refine LeS.pick [some 0, some 1, some 2, some 3] rfl rfl ?_ ?_
            all_goals simp (maxDischargeDepth := 40) only [go_sem, ↓reduceIte, reduceCtorEq, nA, nB, nC, nD, nE, nF, nG, nH, iA, cast0, cast1, lA, lB, lC, lD, lE, mapV_nil, Nat.mul_mod_left, *]
        | false =>
          simp only [h2391, ↓reduceIte, Bool.false_eq_true] at hq2384
          cases hq2384
          dsimp only [St.on, Sum.elim_inl] at hc2385
          obtain ⟨h2404, r2405⟩ := iffO_some hc2385
          clear hc2385
          simp only [Bool.and_eq_true, decide_eq_true_eq] at h2404
          obtain ⟨h2406, h2407⟩ := h2404
          have h2403 : s2382.2.1.toNat ≤ s2382.1.length := by omega
          simp only [go_sem, ↓reduceIte, reduceCtorEq, nA, nB, nC, nD, nE, nF, nG, nH, iA, *]
          cases r2405
          try dsimp only
          refine LeR.picks [some 3] rfl ?_ ?_
          · refine pickB_take _ _ _ _ _ _ _ _ ?_ rfl s2382.2.1.toNat ?_
            exact pickB_nil _
            all_goals (try simp only [List.map_take])
            all_goals simp (maxDischargeDepth := 40) only [go_sem, ↓reduceIte, reduceCtorEq, nA, nB, nC, nD, nE, nF, nG, nH, iA, cast0, cast1, lA, lB, lC, lD, lE, mapV_nil, *]
          · (try simp only [List.length_take, List.length_map, Nat.min_eq_left h2403])
            simp (maxDischargeDepth := 40) only [go_sem, ↓reduceIte, reduceCtorEq, nA, nB, nC, nD, nE, nF, nG, nH, iA, cast0, cast1, lA, lB, lC, lD, lE, mapV_nil, *]
    | false =>
      simp only [h2360, ↓reduceIte, Bool.false_eq_true] at hr
      obtain ⟨h2413, r2414⟩ := iffO_some hr
      clear hr
      simp only [Bool.and_eq_true, decide_eq_true_eq] at h2413
      simp only [go_sem, ↓reduceIte, reduceCtorEq, nA, nB, nC, nD, nE, nF, nG, nH, iA, *]
      repeat refine ⟨by first | omega | (simp only [List.length_append, List.length_cons, List.length_nil, List.length_map, Nat.zero_add] at *; omega), ?_⟩
      refine loop_whl r2414 (fun s2436 => ⟨100, [(6, .ptr 1 0), (7, .ptr 2 0), (11, .c (.int .i64 s2436.2.1)), (12, .c (.int .i64 s2436.2.2))], [some (.var 26 [.c (.int .i64 a0.1), .sl false 2 (a0.2.map e_api_Coef)]), some (.var 26 [.c (.int .i64 (0 : Int)), .nils]), some (.var 26 [.c (.int .i64 a0.1), .own 3 2 s2436.1.length]), some (.row 71 2 (s2436.1.map e_api_Coef)), some (.row 71 2 ([(a1, a2)].map e_api_Coef))]⟩) ?_ ?_
      · try dsimp only
        refine LeS.pick [some 0, some 1, some 2, some 3, some 4] rfl rfl ?_ ?_
        all_goals simp (maxDischargeDepth := 40) only [go_sem, ↓reduceIte, reduceCtorEq, nA, nB, nC, nD, nE, nF, nG, nH, iA, cast0, cast1, lA, lB, lC, lD, lE, mapV_nil, *]
      · intro s2436 qhc2439 hq2438 hc2439 Khc2439 hKhc2439
        try dsimp only at hq2438
        cases h2445 : (decide (s2436.2.2 < ((s2436.1.length : Nat) : Int))) with
        | true =>
          simp only [h2445, ↓reduceIte, Bool.false_eq_true] at hq2438
          obtain ⟨x2446, h2448, r2449⟩ := bindS hq2438
          clear hq2438
          try dsimp only at r2449
          obtain ⟨h2450, _, h2448⟩ := idxO_some h2448
          have h2447 := (List.getElem?_eq_some_iff.1 h2448).1
          cases h2451 : (x2446.2 != (0 : Int)) with
          | true =>
            simp only [h2451, ↓reduceIte, Bool.false_eq_true] at r2449
            have g49 := get_map e_api_Coef h2448
            have g50 := (fun i => Nat.mul_div_cancel i (by decide : 0 < 2))
            simp only [go_sem, ↓reduceIte, reduceCtorEq, nA, nB, nC, nD, nE, nF, nG, nH, iA, Nat.mul_mod_left, *]
            obtain ⟨x2452, h2454, r2455⟩ := bindS r2449
            clear r2449
            try dsimp only at r2455
            obtain ⟨h2456, _, h2454⟩ := idxO_some h2454
            have h2453 := (List.getElem?_eq_some_iff.1 h2454).1
            refine drawS_tail (by kernel_rfl) ?_
            have g51 := get_map e_api_Coef h2454
            simp only [go_sem, ↓reduceIte, reduceCtorEq, nA, nB, nC, nD, nE, nF, nG, nH, iA, Nat.mul_mod_left, Nat.mul_mod_left, *]
            cases r2455
            refine hKhc2439 _ _ rfl ?_
            try dsimp only
            refine LeS.pick [some 0, some 1, some 2, some 3, some 4] rfl rfl ?_ ?_
            all_goals simp (maxDischargeDepth := 40) only [go_sem, ↓reduceIte, reduceCtorEq, nA, nB, nC, nD, nE, nF, nG, nH, iA, cast0, cast1, lA, lB, lC, lD, lE, mapV_nil, Nat.mul_mod_left, Nat.mul_mod_left, *]
          | false =>
            simp only [h2451, ↓reduceIte, Bool.false_eq_true] at r2449
            have g52 := get_map e_api_Coef h2448
            have g53 := (fun i => Nat.mul_div_cancel i (by decide : 0 < 2))
            simp only [go_sem, ↓reduceIte, reduceCtorEq, nA, nB, nC, nD, nE, nF, nG, nH, iA, Nat.mul_mod_left, *]
            cases r2449
            refine hKhc2439 _ _ rfl ?_
            try dsimp only
            refine LeS.pick [some 0, some 1, some 2, some 3, some 4] rfl rfl ?_ ?_
            all_goals simp (maxDischargeDepth := 40) only [go_sem, ↓reduceIte, reduceCtorEq, nA, nB, nC, nD, nE, nF, nG, nH, iA, cast0, cast1, lA, lB, lC, lD, lE, mapV_nil, Nat.mul_mod_left, *]
        | false =>
          simp only [h2445, ↓reduceIte, Bool.false_eq_true] at hq2438
          cases hq2438
          dsimp only [St.on, Sum.elim_inl] at hc2439
          obtain ⟨h2458, r2459⟩ := iffO_some hc2439
          clear hc2439
          simp only [Bool.and_eq_true, decide_eq_true_eq] at h2458
          obtain ⟨h2460, h2461⟩ := h2458
          have h2457 : s2436.2.1.toNat ≤ s2436.1.length := by omega
          simp only [go_sem, ↓reduceIte, reduceCtorEq, nA, nB, nC, nD, nE, nF, nG, nH, iA, *]
          cases r2459
          try dsimp only
          refine LeR.picks [some 3] rfl ?_ ?_
          · refine pickB_take _ _ _ _ _ _ _ _ ?_ rfl s2436.2.1.toNat ?_
            exact pickB_nil _
            all_goals (try simp only [List.map_take])
            all_goals simp (maxDischargeDepth := 40) only [go_sem, ↓reduceIte, reduceCtorEq, nA, nB, nC, nD, nE, nF, nG, nH, iA, cast0, cast1, lA, lB, lC, lD, lE, mapV_nil, *]
          · (try simp only [List.length_take, List.length_map, Nat.min_eq_left h2457])
            simp (maxDischargeDepth := 40) only [go_sem, ↓reduceIte, reduceCtorEq, nA, nB, nC, nD, nE, nF, nG, nH, iA, cast0, cast1, lA, lB, lC, lD, lE, mapV_nil, *]

set_option maxHeartbeats 2000000 in
theorem ref04_Times_okO {a0 : Int × (List (ByteArray × Int))} {a1 : Int × (List (ByteArray × Int))} {a2 : Int} {r : (Int × (List (ByteArray × Int)))} (hr : ref04_Times a0 a1 a2 = some r) : MeetsO Try.prog 56 [.agg [.c (.int .i64 a0.1), .sl false 2 (a0.2.map e_api_Coef)], .agg [.c (.int .i64 a1.1), .sl false 2 (a1.2.map e_api_Coef)], .c (.int .i64 a2)] (.agg [.c (.int .i64 r.1), .own 0 2 (r.2.length)]) [some (.row 71 2 (r.2.map e_api_Coef))] := by
  unfold ref04_Times at hr
  refine meetsG_of (X := true) Ty.mixed Try.func56 (by kernel_rfl) rfl (by kernel_rfl) (by simp) ?_; rw [Try.ntmps56, Try.results56]
  simp only [go_sem, ↓reduceIte, reduceCtorEq, nA, nB, nC, nD, nE, nF, nG, nH, iA, *]
  obtain ⟨h2273, r2274⟩ := iffO_some hr
  clear hr
  simp only [Bool.and_eq_true, decide_eq_true_eq] at h2273
  refine drawS_wild ?_
  simp (config := {maxSteps := 2000000}) only [go_sem, ↓reduceIte, reduceCtorEq, nA, nB, nC, nD, nE, nF, nG, nH, iA, *]
  repeat refine ⟨by first | omega | (simp only [List.length_append, List.length_cons, List.length_nil, List.length_map, Nat.zero_add] at *; omega), ?_⟩
  repeat refine ⟨by first | omega | (simp only [List.length_append, List.length_cons, List.length_nil, List.length_map, Nat.zero_add] at *; omega), ?_⟩
  first | refine ⟨by kernel_rfl, ?_⟩ | skip
  try simp only [go_sem, ↓reduceIte, reduceCtorEq, nA, nB, nC, nD, nE, nF, nG, nH, iA, *]
  refine loop_for r2274 (fun k2486 s2485 => ⟨45, [(2, .c (.int .i64 a2)), (4, .ptr 1 0), (6, .ptr 2 0), (7, .ptr 4 0), (8, .c (.int .i64 (k2486 : Int)))], [some (.var 26 [.c (.int .i64 a0.1), .sl false 2 (a0.2.map e_api_Coef)]), some (.var 26 [.c (.int .i64 a1.1), .sl false 2 (a1.2.map e_api_Coef)]), some (.var 26 [.c (.int .i64 (0 : Int)), .nils]), some (.row 71 2 (s2485.2.map e_api_Coef)), some (.var 26 [.c (.int .i64 s2485.1), .own 3 2 s2485.2.length])]⟩) ?_ ?_ ?_
  · try dsimp only
    refine LeS.pick [some 0, some 1, some 2, some 3, some 4] rfl rfl ?_ ?_
    all_goals simp (maxDischargeDepth := 40) only [go_sem, ↓reduceIte, reduceCtorEq, nA, nB, nC, nD, nE, nF, nG, nH, iA, cast0, cast1, lA, lB, lC, lD, lE, mapV_nil, *]
  · intro k2486 s2485 qhc2488 h2489 h2490 h2491 h2492 hq2487 hc2488 Khc2488 hKhc2488
    try dsimp only at hq2487
    simp only [go_sem, ↓reduceIte, reduceCtorEq, nA, nB, nC, nD, nE, nF, nG, nH, iA, *]
    obtain ⟨x2499, h2500, r2501⟩ := bindS hq2487
    clear hq2487
    try dsimp only at r2501
    refine drawF_wild [3] ?_
    have g54 := get_map e_api_Coef h2500
    simp (config := {maxSteps := 2000000}) only [go_sem, ↓reduceIte, reduceCtorEq, nA, nB, nC, nD, nE, nF, nG, nH, iA, frz_is, *]
    obtain ⟨y2503, h2504, r2505⟩ := bindS r2501
    clear r2501
    try dsimp only at r2505
    refine callx_meetsO ((ref04_Plus_okO h2504).le ?_) (by first | (simp (config := {maxSteps := 2000000}) only [go_sem, ↓reduceIte, reduceCtorEq, nA, nB, nC, nD, nE, nF, nG, nH, iA, *] <;> rfl) | rfl) (Or.inl (by simp (config := {maxSteps := 2000000}) only [go_sem, ↓reduceIte, reduceCtorEq, nA, nB, nC, nD, nE, nF, nG, nH, iA, *])) ?_
    · simp (maxDischargeDepth := 40) only [go_sem, ↓reduceIte, reduceCtorEq, nA, nB, nC, nD, nE, nF, nG, nH, iA, cast0, cast1, lA, lB, lC, lD, lE, mapV_nil, *]
    simp (config := {maxSteps := 2000000}) only [go_sem, ↓reduceIte, reduceCtorEq, nA, nB, nC, nD, nE, nF, nG, nH, iA, *]
    repeat refine ⟨by first | omega | (simp only [List.length_append, List.length_cons, List.length_nil, List.length_map, Nat.zero_add] at *; omega), ?_⟩
    first | refine ⟨by kernel_rfl, ?_⟩ | skip
    try simp only [go_sem, ↓reduceIte, reduceCtorEq, nA, nB, nC, nD, nE, nF, nG, nH, iA, *]
    cases r2505
    refine hKhc2488 _ _ rfl ?_
    try dsimp only
    refine LeS.pick [some 0, some 1, some 2, some 5, some 4] rfl rfl ?_ ?_
    all_goals simp (maxDischargeDepth := 40) only [go_sem, ↓reduceIte, reduceCtorEq, nA, nB, nC, nD, nE, nF, nG, nH, iA, cast0, cast1, lA, lB, lC, lD, lE, mapV_nil, *]
  · clear r2274
    intro s2485 r2274 h2489 h2493 Khc2488
    dsimp only [Sum.elim_inl] at r2274
    simp only [go_sem, ↓reduceIte, reduceCtorEq, nA, nB, nC, nD, nE, nF, nG, nH, iA, *]
    cases r2274
    try dsimp only
    refine LeR.picks [some 3] rfl ?_ ?_
    · repeat (first | exact pickB_nil _ | refine pickB_some _ _ _ _ _ _ _ _ ?_ rfl ?_ | refine pickB_none _ _ _ _ _ ?_)
      all_goals simp (maxDischargeDepth := 40) only [go_sem, ↓reduceIte, reduceCtorEq, nA, nB, nC, nD, nE, nF, nG, nH, iA, cast0, cast1, lA, lB, lC, lD, lE, mapV_nil, *]
    · simp (maxDischargeDepth := 40) only [go_sem, ↓reduceIte, reduceCtorEq, nA, nB, nC, nD, nE, nF, nG, nH, iA, cast0, cast1, lA, lB, lC, lD, lE, mapV_nil, *]

set_option maxHeartbeats 2000000 in
theorem ref07_combine_okO {a0 : List (Bool × (Int × (List (ByteArray × Int))))} {a1 : List Int} {r : (Int × (List (ByteArray × Int))) × Bool} (hr : ref07_combine a0 a1 = some r) : MeetsO Try.prog 44 [.sl false 3 (a0.map e_api_Fact), .sl false 1 (a1.map e_int)] (.tup [.agg [.c (.int .i64 r.1.1), .own 0 2 (r.1.2.length)], .c (.bool r.2)]) [some (.row 71 2 (r.1.2.map e_api_Coef))] := by
  unfold ref07_combine at hr
  refine meetsG_of (X := true) Ty.mixed Try.func44 (by kernel_rfl) rfl (by kernel_rfl) (by simp) ?_; rw [Try.ntmps44, Try.results44]
  cases h2256 : (((a1.length : Nat) : Int) != ((a0.length : Nat) : Int)) with
  | true =>
    simp only [h2256, ↓reduceIte, Bool.false_eq_true] at hr
    simp only [go_sem, ↓reduceIte, reduceCtorEq, nA, nB, nC, nD, nE, nF, nG, nH, iA, *]
    cases hr
    try dsimp only
    refine LeR.picks [none] rfl ?_ ?_
    · repeat (first | exact pickB_nil _ | refine pickB_some _ _ _ _ _ _ _ _ ?_ rfl ?_ | refine pickB_none _ _ _ _ _ ?_)
      all_goals simp (maxDischargeDepth := 40) only [go_sem, ↓reduceIte, reduceCtorEq, nA, nB, nC, nD, nE, nF, nG, nH, iA, cast0, cast1, lA, lB, lC, lD, lE, mapV_nil, *]
    · simp (maxDischargeDepth := 40) only [go_sem, ↓reduceIte, reduceCtorEq, nA, nB, nC, nD, nE, nF, nG, nH, iA, cast0, cast1, lA, lB, lC, lD, lE, mapV_nil, *]
  | false =>
    simp only [h2256, ↓reduceIte, Bool.false_eq_true] at hr
    simp only [go_sem, ↓reduceIte, reduceCtorEq, nA, nB, nC, nD, nE, nF, nG, nH, iA, *]
    refine loop_for hr (fun k2551 s2550 => ⟨65, [(0, .sl false 3 (a0.map e_api_Fact)), (1, .sl false 1 (a1.map e_int)), (4, .ptr 0 0), (6, .ptr 1 0), (7, .c (.int .i64 (k2551 : Int)))], [some (.var 26 [.c (.int .i64 (0 : Int)), .nils]), some (.var 26 [.c (.int .i64 s2550.1), .own 2 2 s2550.2.length]), some (.row 71 2 (s2550.2.map e_api_Coef))]⟩) ?_ ?_ ?_
    · try dsimp only
      refine LeS.pick [some 0, some 1, none] rfl rfl ?_ ?_
      all_goals simp (maxDischargeDepth := 40) only [go_sem, ↓reduceIte, reduceCtorEq, nA, nB, nC, nD, nE, nF, nG, nH, iA, cast0, cast1, lA, lB, lC, lD, lE, mapV_nil, *]
    · intro k2551 s2550 qhc2553 h2554 h2555 h2556 h2557 hq2552 hc2553 Khc2553 hKhc2553
      try dsimp only at hq2552
      obtain ⟨x2559, h2560, r2561⟩ := bindS hq2552
      clear hq2552
      try dsimp only at r2561
      cases h2563 : (decide (x2559 < (-1000000000 : Int))) with
      | true =>
        simp only [h2563, ↓reduceIte, Bool.false_eq_true] at r2561
        have g55 := get_map e_int h2560
        simp only [go_sem, ↓reduceIte, reduceCtorEq, nA, nB, nC, nD, nE, nF, nG, nH, iA, *]
        cases r2561
        dsimp only [St.on, Sum.elim_inr] at hc2553
        cases hc2553
        try dsimp only
        refine LeR.picks [none] rfl ?_ ?_
        · repeat (first | exact pickB_nil _ | refine pickB_some _ _ _ _ _ _ _ _ ?_ rfl ?_ | refine pickB_none _ _ _ _ _ ?_)
          all_goals simp (maxDischargeDepth := 40) only [go_sem, ↓reduceIte, reduceCtorEq, nA, nB, nC, nD, nE, nF, nG, nH, iA, cast0, cast1, lA, lB, lC, lD, lE, mapV_nil, *]
        · simp (maxDischargeDepth := 40) only [go_sem, ↓reduceIte, reduceCtorEq, nA, nB, nC, nD, nE, nF, nG, nH, iA, cast0, cast1, lA, lB, lC, lD, lE, mapV_nil, *]
      | false =>
        simp only [h2563, ↓reduceIte, Bool.false_eq_true] at r2561
        cases h2564 : (decide ((1000000000 : Int) < x2559)) with
        | true =>
          simp only [h2564, ↓reduceIte, Bool.false_eq_true] at r2561
          have g56 := get_map e_int h2560
          simp only [go_sem, ↓reduceIte, reduceCtorEq, nA, nB, nC, nD, nE, nF, nG, nH, iA, *]
          cases r2561
          dsimp only [St.on, Sum.elim_inr] at hc2553
          cases hc2553
          try dsimp only
          refine LeR.picks [none] rfl ?_ ?_
          · repeat (first | exact pickB_nil _ | refine pickB_some _ _ _ _ _ _ _ _ ?_ rfl ?_ | refine pickB_none _ _ _ _ _ ?_)
            all_goals simp (maxDischargeDepth := 40) only [go_sem, ↓reduceIte, reduceCtorEq, nA, nB, nC, nD, nE, nF, nG, nH, iA, cast0, cast1, lA, lB, lC, lD, lE, mapV_nil, *]
          · simp (maxDischargeDepth := 40) only [go_sem, ↓reduceIte, reduceCtorEq, nA, nB, nC, nD, nE, nF, nG, nH, iA, cast0, cast1, lA, lB, lC, lD, lE, mapV_nil, *]
        | false =>
          simp only [h2564, ↓reduceIte, Bool.false_eq_true] at r2561
          cases h2565 : (decide (x2559 < (0 : Int))) with
          | true =>
            simp only [h2565, ↓reduceIte, Bool.false_eq_true] at r2561
            obtain ⟨x2566, h2567, r2568⟩ := bindS r2561
            clear r2561
            try dsimp only at r2568
            cases h2570 : x2566.1 with
            | true =>
              simp only [h2570, ↓reduceIte, Bool.false_eq_true] at r2568
              cases h2571 : (x2559 != (0 : Int)) with
              | true =>
                simp only [h2571, ↓reduceIte, Bool.false_eq_true] at r2568
                have g57 := get_map e_int h2560
                have g58 := get_map e_api_Fact h2567
                simp only [go_sem, ↓reduceIte, reduceCtorEq, nA, nB, nC, nD, nE, nF, nG, nH, iA, *]
                refine drawF_wild [2] ?_
                simp (config := {maxSteps := 2000000}) only [go_sem, ↓reduceIte, reduceCtorEq, nA, nB, nC, nD, nE, nF, nG, nH, iA, frz_is, *]
                obtain ⟨y2573, h2574, r2575⟩ := bindS r2568
                clear r2568
                try dsimp only at r2575
                refine callx_meetsO ((ref04_Times_okO h2574).le ?_) (by first | (simp (config := {maxSteps := 2000000}) only [go_sem, ↓reduceIte, reduceCtorEq, nA, nB, nC, nD, nE, nF, nG, nH, iA, *] <;> rfl) | rfl) (Or.inl (by simp (config := {maxSteps := 2000000}) only [go_sem, ↓reduceIte, reduceCtorEq, nA, nB, nC, nD, nE, nF, nG, nH, iA, *])) ?_
                · simp (maxDischargeDepth := 40) only [go_sem, ↓reduceIte, reduceCtorEq, nA, nB, nC, nD, nE, nF, nG, nH, iA, cast0, cast1, lA, lB, lC, lD, lE, mapV_nil, *]
                simp (config := {maxSteps := 2000000}) only [go_sem, ↓reduceIte, reduceCtorEq, nA, nB, nC, nD, nE, nF, nG, nH, iA, *]
                repeat refine ⟨by first | omega | (simp only [List.length_append, List.length_cons, List.length_nil, List.length_map, Nat.zero_add] at *; omega), ?_⟩
                first | refine ⟨by kernel_rfl, ?_⟩ | skip
                try simp only [go_sem, ↓reduceIte, reduceCtorEq, nA, nB, nC, nD, nE, nF, nG, nH, iA, *]
                cases r2575
                refine hKhc2553 _ _ rfl ?_
                try dsimp only
                refine LeS.pick [some 0, some 1, some 3] rfl rfl ?_ ?_
                all_goals simp (maxDischargeDepth := 40) only [go_sem, ↓reduceIte, reduceCtorEq, nA, nB, nC, nD, nE, nF, nG, nH, iA, cast0, cast1, lA, lB, lC, lD, lE, mapV_nil, *]
              | false =>
                simp only [h2571, ↓reduceIte, Bool.false_eq_true] at r2568
                have g59 := get_map e_int h2560
                have g60 := get_map e_api_Fact h2567
                simp only [go_sem, ↓reduceIte, reduceCtorEq, nA, nB, nC, nD, nE, nF, nG, nH, iA, *]
                cases r2568
                refine hKhc2553 _ _ rfl ?_
                try dsimp only
                refine LeS.pick [some 0, some 1, some 2] rfl rfl ?_ ?_
                all_goals simp (maxDischargeDepth := 40) only [go_sem, ↓reduceIte, reduceCtorEq, nA, nB, nC, nD, nE, nF, nG, nH, iA, cast0, cast1, lA, lB, lC, lD, lE, mapV_nil, *]
            | false =>
              simp only [h2570, ↓reduceIte, Bool.false_eq_true] at r2568
              have g61 := get_map e_int h2560
              have g62 := get_map e_api_Fact h2567
              simp only [go_sem, ↓reduceIte, reduceCtorEq, nA, nB, nC, nD, nE, nF, nG, nH, iA, *]
              cases r2568
              dsimp only [St.on, Sum.elim_inr] at hc2553
              cases hc2553
              try dsimp only
              refine LeR.picks [none] rfl ?_ ?_
              · repeat (first | exact pickB_nil _ | refine pickB_some _ _ _ _ _ _ _ _ ?_ rfl ?_ | refine pickB_none _ _ _ _ _ ?_)
                all_goals simp (maxDischargeDepth := 40) only [go_sem, ↓reduceIte, reduceCtorEq, nA, nB, nC, nD, nE, nF, nG, nH, iA, cast0, cast1, lA, lB, lC, lD, lE, mapV_nil, *]
              · simp (maxDischargeDepth := 40) only [go_sem, ↓reduceIte, reduceCtorEq, nA, nB, nC, nD, nE, nF, nG, nH, iA, cast0, cast1, lA, lB, lC, lD, lE, mapV_nil, *]
          | false =>
            simp only [h2565, ↓reduceIte, Bool.false_eq_true] at r2561
            cases h2576 : (x2559 != (0 : Int)) with
            | true =>
              simp only [h2576, ↓reduceIte, Bool.false_eq_true] at r2561
              have g63 := get_map e_int h2560
              simp only [go_sem, ↓reduceIte, reduceCtorEq, nA, nB, nC, nD, nE, nF, nG, nH, iA, *]
              obtain ⟨x2582, h2583, r2584⟩ := bindS r2561
              clear r2561
              try dsimp only at r2584
              refine drawF_wild [2] ?_
              have g64 := get_map e_api_Fact h2583
              simp (config := {maxSteps := 2000000}) only [go_sem, ↓reduceIte, reduceCtorEq, nA, nB, nC, nD, nE, nF, nG, nH, iA, frz_is, *]
              obtain ⟨y2586, h2587, r2588⟩ := bindS r2584
              clear r2584
              try dsimp only at r2588
              refine callx_meetsO ((ref04_Times_okO h2587).le ?_) (by first | (simp (config := {maxSteps := 2000000}) only [go_sem, ↓reduceIte, reduceCtorEq, nA, nB, nC, nD, nE, nF, nG, nH, iA, *] <;> rfl) | rfl) (Or.inl (by simp (config := {maxSteps := 2000000}) only [go_sem, ↓reduceIte, reduceCtorEq, nA, nB, nC, nD, nE, nF, nG, nH, iA, *])) ?_
              · simp (maxDischargeDepth := 40) only [go_sem, ↓reduceIte, reduceCtorEq, nA, nB, nC, nD, nE, nF, nG, nH, iA, cast0, cast1, lA, lB, lC, lD, lE, mapV_nil, *]
              simp (config := {maxSteps := 2000000}) only [go_sem, ↓reduceIte, reduceCtorEq, nA, nB, nC, nD, nE, nF, nG, nH, iA, *]
              repeat refine ⟨by first | omega | (simp only [List.length_append, List.length_cons, List.length_nil, List.length_map, Nat.zero_add] at *; omega), ?_⟩
              first | refine ⟨by kernel_rfl, ?_⟩ | skip
              try simp only [go_sem, ↓reduceIte, reduceCtorEq, nA, nB, nC, nD, nE, nF, nG, nH, iA, *]
              cases r2588
              refine hKhc2553 _ _ rfl ?_
              try dsimp only
              refine LeS.pick [some 0, some 1, some 3] rfl rfl ?_ ?_
              all_goals simp (maxDischargeDepth := 40) only [go_sem, ↓reduceIte, reduceCtorEq, nA, nB, nC, nD, nE, nF, nG, nH, iA, cast0, cast1, lA, lB, lC, lD, lE, mapV_nil, *]
            | false =>
              simp only [h2576, ↓reduceIte, Bool.false_eq_true] at r2561
              have g65 := get_map e_int h2560
              simp only [go_sem, ↓reduceIte, reduceCtorEq, nA, nB, nC, nD, nE, nF, nG, nH, iA, *]
              cases r2561
              refine hKhc2553 _ _ rfl ?_
              try dsimp only
              refine LeS.pick [some 0, some 1, some 2] rfl rfl ?_ ?_
              all_goals simp (maxDischargeDepth := 40) only [go_sem, ↓reduceIte, reduceCtorEq, nA, nB, nC, nD, nE, nF, nG, nH, iA, cast0, cast1, lA, lB, lC, lD, lE, mapV_nil, *]
    · clear hr
      intro s2550 hr h2554 h2558 Khc2553
      dsimp only [Sum.elim_inl] at hr
      simp only [go_sem, ↓reduceIte, reduceCtorEq, nA, nB, nC, nD, nE, nF, nG, nH, iA, *]
      cases hr
      try dsimp only
      refine LeR.picks [some 2] rfl ?_ ?_
      · repeat (first | exact pickB_nil _ | refine pickB_some _ _ _ _ _ _ _ _ ?_ rfl ?_ | refine pickB_none _ _ _ _ _ ?_)
        all_goals simp (maxDischargeDepth := 40) only [go_sem, ↓reduceIte, reduceCtorEq, nA, nB, nC, nD, nE, nF, nG, nH, iA, cast0, cast1, lA, lB, lC, lD, lE, mapV_nil, *]
      · simp (maxDischargeDepth := 40) only [go_sem, ↓reduceIte, reduceCtorEq, nA, nB, nC, nD, nE, nF, nG, nH, iA, cast0, cast1, lA, lB, lC, lD, lE, mapV_nil, *]

def ref03_Div (a0 : Int) (a1 : Int) : Option (Int × Int) :=
  (ref03_In a0).bind fun y2662 =>
if y2662 then
  (ref03_In a1).bind fun y2666 =>
  if y2666 then
    if (a1 == (0 : Int)) then
      some ((0 : Int), (1 : Int))
    else
      iffO (decide (a1 ≠ 0))
        (iffO (decide (a1 ≠ 0))
          (if ((a0.tmod a1) != (0 : Int)) then
            if ((decide (a0 < (0 : Int))) == (decide (a1 < (0 : Int)))) then
              some ((IntKind.i64.wrap (a0.tdiv a1)), (0 : Int))
            else
              some ((IntKind.i64.wrap ((IntKind.i64.wrap (a0.tdiv a1)) - (1 : Int))), (0 : Int))
          else
            some ((IntKind.i64.wrap (a0.tdiv a1)), (0 : Int))))
  else
    some ((0 : Int), (2 : Int))
else
  some ((0 : Int), (2 : Int))
set_option maxHeartbeats 2000000 in
theorem ref03_Div_ok {a0 : Int} {a1 : Int} {r : Int × Int} (hr : ref03_Div a0 a1 = some r) : Meets Try.prog 46 [.c (.int .i64 a0), .c (.int .i64 a1)] (.tup [.c (.int .i64 r.1), .c (.int .i64 r.2)]) := by
  unfold ref03_Div at hr
  refine meetsV_of (X := true) Ty.mixed Try.func46 (by kernel_rfl) rfl (by kernel_rfl) (by simp) ?_; rw [Try.ntmps46, Try.results46]
  simp only [go_sem, ↓reduceIte, reduceCtorEq, nA, nB, nC, nD, nE, nF, nG, nH, iA, *]
  obtain ⟨y2662, h2663, r2664⟩ := bindS hr
  clear hr
  try dsimp only at r2664
  cases h2665 : y2662 with
  | true =>
    simp only [h2665, ↓reduceIte, Bool.false_eq_true] at r2664
    refine call_meets ((ref03_In_ok h2663).le ?_) (by first | (simp only [go_sem, ↓reduceIte, reduceCtorEq, nA, nB, nC, nD, nE, nF, nG, nH, iA, *] <;> rfl) | rfl) ?_
    · simp (maxDischargeDepth := 40) only [go_sem, ↓reduceIte, reduceCtorEq, nA, nB, nC, nD, nE, nF, nG, nH, iA, cast0, cast1, lA, lB, lC, lD, lE, mapV_nil, *]
    simp only [go_sem, ↓reduceIte, reduceCtorEq, nA, nB, nC, nD, nE, nF, nG, nH, iA, *]
    obtain ⟨y2666, h2667, r2668⟩ := bindS r2664
    clear r2664
    try dsimp only at r2668
    cases h2669 : y2666 with
    | true =>
      simp only [h2669, ↓reduceIte, Bool.false_eq_true] at r2668
      cases h2670 : (a1 == (0 : Int)) with
      | true =>
        simp only [h2670, ↓reduceIte, Bool.false_eq_true] at r2668
        refine call_meets ((ref03_In_ok h2667).le ?_) (by first | (simp only [go_sem, ↓reduceIte, reduceCtorEq, nA, nB, nC, nD, nE, nF, nG, nH, iA, *] <;> rfl) | rfl) ?_
        · simp (maxDischargeDepth := 40) only [go_sem, ↓reduceIte, reduceCtorEq, nA, nB, nC, nD, nE, nF, nG, nH, iA, cast0, cast1, lA, lB, lC, lD, lE, mapV_nil, *]
        simp only [go_sem, ↓reduceIte, reduceCtorEq, nA, nB, nC, nD, nE, nF, nG, nH, iA, *]
        cases r2668
        simp (maxDischargeDepth := 40) only [go_sem, ↓reduceIte, reduceCtorEq, nA, nB, nC, nD, nE, nF, nG, nH, iA, cast0, cast1, lA, lB, lC, lD, lE, mapV_nil, *]
      | false =>
        simp only [h2670, ↓reduceIte, Bool.false_eq_true] at r2668
        obtain ⟨h2671, r2672⟩ := iffO_some r2668
        clear r2668
        simp only [Bool.and_eq_true, decide_eq_true_eq] at h2671
        obtain ⟨h2673, r2674⟩ := iffO_some r2672
        clear r2672
        simp only [Bool.and_eq_true, decide_eq_true_eq] at h2673
        cases h2675 : ((a0.tmod a1) != (0 : Int)) with
        | true =>
          simp only [h2675, ↓reduceIte, Bool.false_eq_true] at r2674
          cases h2676 : ((decide (a0 < (0 : Int))) == (decide (a1 < (0 : Int)))) with
          | true =>
            simp only [h2676, ↓reduceIte, Bool.false_eq_true] at r2674
            refine call_meets ((ref03_In_ok h2667).le ?_) (by first | (simp only [go_sem, ↓reduceIte, reduceCtorEq, nA, nB, nC, nD, nE, nF, nG, nH, iA, *] <;> rfl) | rfl) ?_
            · simp (maxDischargeDepth := 40) only [go_sem, ↓reduceIte, reduceCtorEq, nA, nB, nC, nD, nE, nF, nG, nH, iA, cast0, cast1, lA, lB, lC, lD, lE, mapV_nil, *]
            simp only [go_sem, ↓reduceIte, reduceCtorEq, nA, nB, nC, nD, nE, nF, nG, nH, iA, *]
            cases r2674
            simp (maxDischargeDepth := 40) only [go_sem, ↓reduceIte, reduceCtorEq, nA, nB, nC, nD, nE, nF, nG, nH, iA, cast0, cast1, lA, lB, lC, lD, lE, mapV_nil, *]
          | false =>
            simp only [h2676, ↓reduceIte, Bool.false_eq_true] at r2674
            refine call_meets ((ref03_In_ok h2667).le ?_) (by first | (simp only [go_sem, ↓reduceIte, reduceCtorEq, nA, nB, nC, nD, nE, nF, nG, nH, iA, *] <;> rfl) | rfl) ?_
            · simp (maxDischargeDepth := 40) only [go_sem, ↓reduceIte, reduceCtorEq, nA, nB, nC, nD, nE, nF, nG, nH, iA, cast0, cast1, lA, lB, lC, lD, lE, mapV_nil, *]
            simp only [go_sem, ↓reduceIte, reduceCtorEq, nA, nB, nC, nD, nE, nF, nG, nH, iA, *]
            cases r2674
            simp (maxDischargeDepth := 40) only [go_sem, ↓reduceIte, reduceCtorEq, nA, nB, nC, nD, nE, nF, nG, nH, iA, cast0, cast1, lA, lB, lC, lD, lE, mapV_nil, *]
        | false =>
          simp only [h2675, ↓reduceIte, Bool.false_eq_true] at r2674
          refine call_meets ((ref03_In_ok h2667).le ?_) (by first | (simp only [go_sem, ↓reduceIte, reduceCtorEq, nA, nB, nC, nD, nE, nF, nG, nH, iA, *] <;> rfl) | rfl) ?_
          · simp (maxDischargeDepth := 40) only [go_sem, ↓reduceIte, reduceCtorEq, nA, nB, nC, nD, nE, nF, nG, nH, iA, cast0, cast1, lA, lB, lC, lD, lE, mapV_nil, *]
          simp only [go_sem, ↓reduceIte, reduceCtorEq, nA, nB, nC, nD, nE, nF, nG, nH, iA, *]
          cases r2674
          simp (maxDischargeDepth := 40) only [go_sem, ↓reduceIte, reduceCtorEq, nA, nB, nC, nD, nE, nF, nG, nH, iA, cast0, cast1, lA, lB, lC, lD, lE, mapV_nil, *]
    | false =>
      simp only [h2669, ↓reduceIte, Bool.false_eq_true] at r2668
      refine call_meets ((ref03_In_ok h2667).le ?_) (by first | (simp only [go_sem, ↓reduceIte, reduceCtorEq, nA, nB, nC, nD, nE, nF, nG, nH, iA, *] <;> rfl) | rfl) ?_
      · simp (maxDischargeDepth := 40) only [go_sem, ↓reduceIte, reduceCtorEq, nA, nB, nC, nD, nE, nF, nG, nH, iA, cast0, cast1, lA, lB, lC, lD, lE, mapV_nil, *]
      simp only [go_sem, ↓reduceIte, reduceCtorEq, nA, nB, nC, nD, nE, nF, nG, nH, iA, *]
      cases r2668
      simp (maxDischargeDepth := 40) only [go_sem, ↓reduceIte, reduceCtorEq, nA, nB, nC, nD, nE, nF, nG, nH, iA, cast0, cast1, lA, lB, lC, lD, lE, mapV_nil, *]
  | false =>
    simp only [h2665, ↓reduceIte, Bool.false_eq_true] at r2664
    refine call_meets ((ref03_In_ok h2663).le ?_) (by first | (simp only [go_sem, ↓reduceIte, reduceCtorEq, nA, nB, nC, nD, nE, nF, nG, nH, iA, *] <;> rfl) | rfl) ?_
    · simp (maxDischargeDepth := 40) only [go_sem, ↓reduceIte, reduceCtorEq, nA, nB, nC, nD, nE, nF, nG, nH, iA, cast0, cast1, lA, lB, lC, lD, lE, mapV_nil, *]
    simp only [go_sem, ↓reduceIte, reduceCtorEq, nA, nB, nC, nD, nE, nF, nG, nH, iA, *]
    cases r2664
    simp (maxDischargeDepth := 40) only [go_sem, ↓reduceIte, reduceCtorEq, nA, nB, nC, nD, nE, nF, nG, nH, iA, cast0, cast1, lA, lB, lC, lD, lE, mapV_nil, *]

def ref07_Cut (a0 : List (Bool × (Int × (List (ByteArray × Int))))) (a1 : List Int) : Option ((Int × (List (ByteArray × Int))) × Int) :=
  (ref07_Valid a0).bind fun y2251 =>
if y2251 then
  (ref07_combine a0 a1).bind fun y2255 =>
  if y2255.2 then
    if (((y2255.1.2.length : Nat) : Int) == (0 : Int)) then
      some (((0 : Int), []), (18 : Int))
    else
      (forC (R := (Int × (List (ByteArray × Int))) × Int) (y2255.1.2.length) ((0 : Int) : Int) fun k2613 s2612 =>
        (y2255.1.2[k2613]?).bind fun x2621 =>
        (ref03_Gcd s2612 x2621.2).bind fun y2625 =>
        some (.nx y2625.1)).bind (Sum.elim (fun s2612 =>
        (whlC (R := (Int × (List (ByteArray × Int))) × Int) ((y2255.1.2, (0 : Int)) : (List (ByteArray × Int)) × Int) fun s2645 =>
          if (decide (s2645.2 < ((s2645.1.length : Nat) : Int))) then
            (idxO s2645.1 s2645.2).bind fun x2655 =>
            iffO (decide (s2612 ≠ 0))
              (some (.nx ((s2645.1.set s2645.2.toNat (x2655.1, (IntKind.i64.wrap (x2655.2.tdiv s2612)))), (IntKind.i64.wrap (s2645.2 + (1 : Int))))))
          else
            some (.br (s2645.1, s2645.2))).bind (Sum.elim (fun s2645 =>
          (ref03_Div y2255.1.1 s2612).bind fun y2684 =>
          (ref04_Valid (y2684.1, s2645.1)).bind fun y2687 =>
          if y2687 then
            some ((y2684.1, s2645.1), (0 : Int))
          else
            some (((0 : Int), []), (3 : Int))) some)) some)
  else
    some (((0 : Int), []), (18 : Int))
else
  some (((0 : Int), []), (1 : Int))
set_option maxHeartbeats 2000000 in
theorem ref07_Cut_ok {a0 : List (Bool × (Int × (List (ByteArray × Int))))} {a1 : List Int} {r : (Int × (List (ByteArray × Int))) × Int} (hr : ref07_Cut a0 a1 = some r) : Meets Try.prog 18 [.sl false 3 (a0.map e_api_Fact), .sl false 1 (a1.map e_int)] (.tup [.agg [.c (.int .i64 r.1.1), .sl false 2 (r.1.2.map e_api_Coef)], .c (.int .i64 r.2)]) := by
  unfold ref07_Cut at hr
  refine meetsV_of (X := true) Ty.mixed Try.func18 (by kernel_rfl) rfl (by kernel_rfl) (by simp) ?_; rw [Try.ntmps18, Try.results18]
  simp only [go_sem, ↓reduceIte, reduceCtorEq, nA, nB, nC, nD, nE, nF, nG, nH, iA, *]
  obtain ⟨y2251, h2252, r2253⟩ := bindS hr
  clear hr
  try dsimp only at r2253
  cases h2254 : y2251 with
  | true =>
    simp only [h2254, ↓reduceIte, Bool.false_eq_true] at r2253
    refine call_meets ((ref07_Valid_ok h2252).le ?_) (by first | (simp only [go_sem, ↓reduceIte, reduceCtorEq, nA, nB, nC, nD, nE, nF, nG, nH, iA, *] <;> rfl) | rfl) ?_
    · simp (maxDischargeDepth := 40) only [go_sem, ↓reduceIte, reduceCtorEq, nA, nB, nC, nD, nE, nF, nG, nH, iA, cast0, cast1, lA, lB, lC, lD, lE, mapV_nil, *]
    simp only [go_sem, ↓reduceIte, reduceCtorEq, nA, nB, nC, nD, nE, nF, nG, nH, iA, *]
    obtain ⟨y2255, h2589, r2590⟩ := bindS r2253
    clear r2253
    try dsimp only at r2590
    cases h2591 : y2255.2 with
    | true =>
      simp only [h2591, ↓reduceIte, Bool.false_eq_true] at r2590
      cases h2592 : (((y2255.1.2.length : Nat) : Int) == (0 : Int)) with
      | true =>
        simp only [h2592, ↓reduceIte, Bool.false_eq_true] at r2590
        refine call_meetsO ((ref07_combine_okO h2589).le ?_) (by first | (simp only [go_sem, ↓reduceIte, reduceCtorEq, nA, nB, nC, nD, nE, nF, nG, nH, iA, *] <;> rfl) | rfl) (Or.inl (by simp only [go_sem, ↓reduceIte, reduceCtorEq, nA, nB, nC, nD, nE, nF, nG, nH, iA, *])) ?_
        · simp (maxDischargeDepth := 40) only [go_sem, ↓reduceIte, reduceCtorEq, nA, nB, nC, nD, nE, nF, nG, nH, iA, cast0, cast1, lA, lB, lC, lD, lE, mapV_nil, *]
        simp only [go_sem, ↓reduceIte, reduceCtorEq, nA, nB, nC, nD, nE, nF, nG, nH, iA, *]
        cases r2590
        simp (maxDischargeDepth := 40) only [go_sem, ↓reduceIte, reduceCtorEq, nA, nB, nC, nD, nE, nF, nG, nH, iA, cast0, cast1, lA, lB, lC, lD, lE, mapV_nil, *]
      | false =>
        simp only [h2592, ↓reduceIte, Bool.false_eq_true] at r2590
        refine call_meetsO ((ref07_combine_okO h2589).le ?_) (by first | (simp only [go_sem, ↓reduceIte, reduceCtorEq, nA, nB, nC, nD, nE, nF, nG, nH, iA, *] <;> rfl) | rfl) (Or.inl (by simp only [go_sem, ↓reduceIte, reduceCtorEq, nA, nB, nC, nD, nE, nF, nG, nH, iA, *])) ?_
        · simp (maxDischargeDepth := 40) only [go_sem, ↓reduceIte, reduceCtorEq, nA, nB, nC, nD, nE, nF, nG, nH, iA, cast0, cast1, lA, lB, lC, lD, lE, mapV_nil, *]
        simp only [go_sem, ↓reduceIte, reduceCtorEq, nA, nB, nC, nD, nE, nF, nG, nH, iA, *]
        refine loop_for r2590 (fun k2613 s2612 => ⟨78, [(4, .ptr 0 0), (6, .ptr 2 0), (8, .c (.int .i64 s2612)), (9, .c (.int .i64 (k2613 : Int)))], [some (.var 26 [.c (.int .i64 (0 : Int)), .nils]), some (.row 71 2 (y2255.1.2.map e_api_Coef)), some (.var 26 [.c (.int .i64 y2255.1.1), .own 1 2 y2255.1.2.length])]⟩) ?_ ?_ ?_
        · try dsimp only
          refine LeS.pick [some 0, some 1, some 2] rfl rfl ?_ ?_
          all_goals simp (maxDischargeDepth := 40) only [go_sem, ↓reduceIte, reduceCtorEq, nA, nB, nC, nD, nE, nF, nG, nH, iA, cast0, cast1, lA, lB, lC, lD, lE, mapV_nil, *]
        · intro k2613 s2612 qhc2615 h2616 h2617 h2618 h2619 hq2614 hc2615 Khc2615 hKhc2615
          try dsimp only at hq2614
          obtain ⟨x2621, h2623, r2624⟩ := bindS hq2614
          clear hq2614
          try dsimp only at r2624
          have h2622 := (List.getElem?_eq_some_iff.1 h2623).1
          have g66 := get_map e_api_Coef h2623
          have g67 := (fun i => Nat.mul_div_cancel i (by decide : 0 < 2))
          simp only [go_sem, ↓reduceIte, reduceCtorEq, nA, nB, nC, nD, nE, nF, nG, nH, iA, Nat.mul_mod_left, *]
          obtain ⟨y2625, h2626, r2627⟩ := bindS r2624
          clear r2624
          try dsimp only at r2627
          refine call_meets ((ref03_Gcd_ok h2626).le ?_) (by first | (simp only [go_sem, ↓reduceIte, reduceCtorEq, nA, nB, nC, nD, nE, nF, nG, nH, iA, Nat.mul_mod_left, *] <;> rfl) | rfl) ?_
          · simp (maxDischargeDepth := 40) only [go_sem, ↓reduceIte, reduceCtorEq, nA, nB, nC, nD, nE, nF, nG, nH, iA, cast0, cast1, lA, lB, lC, lD, lE, mapV_nil, *]
          simp only [go_sem, ↓reduceIte, reduceCtorEq, nA, nB, nC, nD, nE, nF, nG, nH, iA, Nat.mul_mod_left, *]
          cases r2627
          refine hKhc2615 _ _ rfl ?_
          try dsimp only
          refine LeS.pick [some 0, some 1, some 2] rfl rfl ?_ ?_
          all_goals simp (maxDischargeDepth := 40) only [go_sem, ↓reduceIte, reduceCtorEq, nA, nB, nC, nD, nE, nF, nG, nH, iA, cast0, cast1, lA, lB, lC, lD, lE, mapV_nil, Nat.mul_mod_left, *]
        · clear r2590
          intro s2612 r2590 h2616 h2620 Khc2615
          dsimp only [Sum.elim_inl] at r2590
          simp only [go_sem, ↓reduceIte, reduceCtorEq, nA, nB, nC, nD, nE, nF, nG, nH, iA, *]
          refine loop_whl r2590 (fun s2645 => ⟨78, [(4, .ptr 0 0), (6, .ptr 2 0), (8, .c (.int .i64 s2612)), (10, .c (.int .i64 s2645.2))], [some (.var 26 [.c (.int .i64 (0 : Int)), .nils]), some (.row 71 2 (s2645.1.map e_api_Coef)), some (.var 26 [.c (.int .i64 y2255.1.1), .own 1 2 s2645.1.length])]⟩) ?_ ?_
          · try dsimp only
            refine LeS.pick [some 0, some 1, some 2] rfl rfl ?_ ?_
            all_goals simp (maxDischargeDepth := 40) only [go_sem, ↓reduceIte, reduceCtorEq, nA, nB, nC, nD, nE, nF, nG, nH, iA, cast0, cast1, lA, lB, lC, lD, lE, mapV_nil, *]
          · intro s2645 qhc2648 hq2647 hc2648 Khc2648 hKhc2648
            try dsimp only at hq2647
            cases h2654 : (decide (s2645.2 < ((s2645.1.length : Nat) : Int))) with
            | true =>
              simp only [h2654, ↓reduceIte, Bool.false_eq_true] at hq2647
              obtain ⟨x2655, h2657, r2658⟩ := bindS hq2647
              clear hq2647
              try dsimp only at r2658
              obtain ⟨h2659, _, h2657⟩ := idxO_some h2657
              have h2656 := (List.getElem?_eq_some_iff.1 h2657).1
              obtain ⟨h2660, r2661⟩ := iffO_some r2658
              clear r2658
              simp only [Bool.and_eq_true, decide_eq_true_eq] at h2660
              have g68 := get_map e_api_Coef h2657
              have g69 := (fun i => Nat.mul_div_cancel i (by decide : 0 < 2))
              simp only [go_sem, ↓reduceIte, reduceCtorEq, nA, nB, nC, nD, nE, nF, nG, nH, iA, Nat.mul_mod_left, *]
              cases r2661
              refine hKhc2648 _ _ rfl ?_
              try dsimp only
              refine LeS.pick [some 0, some 1, some 2] rfl rfl ?_ ?_
              all_goals simp (maxDischargeDepth := 40) only [go_sem, ↓reduceIte, reduceCtorEq, nA, nB, nC, nD, nE, nF, nG, nH, iA, cast0, cast1, lA, lB, lC, lD, lE, mapV_nil, Nat.mul_mod_left, *]
            | false =>
              simp only [h2654, ↓reduceIte, Bool.false_eq_true] at hq2647
              cases hq2647
              dsimp only [St.on, Sum.elim_inl] at hc2648
              simp only [go_sem, ↓reduceIte, reduceCtorEq, nA, nB, nC, nD, nE, nF, nG, nH, iA, *]
              obtain ⟨y2677, h2678, r2679⟩ := bindS hc2648
              clear hc2648
              try dsimp only at r2679
              refine call_meets ((ref03_Div_ok h2678).le ?_) (by first | (simp only [go_sem, ↓reduceIte, reduceCtorEq, nA, nB, nC, nD, nE, nF, nG, nH, iA, *] <;> rfl) | rfl) ?_
              · simp (maxDischargeDepth := 40) only [go_sem, ↓reduceIte, reduceCtorEq, nA, nB, nC, nD, nE, nF, nG, nH, iA, cast0, cast1, lA, lB, lC, lD, lE, mapV_nil, *]
              simp only [go_sem, ↓reduceIte, reduceCtorEq, nA, nB, nC, nD, nE, nF, nG, nH, iA, *]
              obtain ⟨y2680, h2681, r2682⟩ := bindS r2679
              clear r2679
              try dsimp only at r2682
              cases h2683 : y2680 with
              | true =>
                simp only [h2683, ↓reduceIte, Bool.false_eq_true] at r2682
                refine call_meets ((ref04_Valid_ok h2681).le ?_) (by first | (simp only [go_sem, ↓reduceIte, reduceCtorEq, nA, nB, nC, nD, nE, nF, nG, nH, iA, *] <;> rfl) | rfl) ?_
                · simp (maxDischargeDepth := 40) only [go_sem, ↓reduceIte, reduceCtorEq, nA, nB, nC, nD, nE, nF, nG, nH, iA, cast0, cast1, lA, lB, lC, lD, lE, mapV_nil, *]
                simp only [go_sem, ↓reduceIte, reduceCtorEq, nA, nB, nC, nD, nE, nF, nG, nH, iA, *]
                cases r2682
                simp (maxDischargeDepth := 40) only [go_sem, ↓reduceIte, reduceCtorEq, nA, nB, nC, nD, nE, nF, nG, nH, iA, cast0, cast1, lA, lB, lC, lD, lE, mapV_nil, *]
              | false =>
                simp only [h2683, ↓reduceIte, Bool.false_eq_true] at r2682
                refine call_meets ((ref04_Valid_ok h2681).le ?_) (by first | (simp only [go_sem, ↓reduceIte, reduceCtorEq, nA, nB, nC, nD, nE, nF, nG, nH, iA, *] <;> rfl) | rfl) ?_
                · simp (maxDischargeDepth := 40) only [go_sem, ↓reduceIte, reduceCtorEq, nA, nB, nC, nD, nE, nF, nG, nH, iA, cast0, cast1, lA, lB, lC, lD, lE, mapV_nil, *]
                simp only [go_sem, ↓reduceIte, reduceCtorEq, nA, nB, nC, nD, nE, nF, nG, nH, iA, *]
                cases r2682
                simp (maxDischargeDepth := 40) only [go_sem, ↓reduceIte, reduceCtorEq, nA, nB, nC, nD, nE, nF, nG, nH, iA, cast0, cast1, lA, lB, lC, lD, lE, mapV_nil, *]
    | false =>
      simp only [h2591, ↓reduceIte, Bool.false_eq_true] at r2590
      refine call_meetsO ((ref07_combine_okO h2589).le ?_) (by first | (simp only [go_sem, ↓reduceIte, reduceCtorEq, nA, nB, nC, nD, nE, nF, nG, nH, iA, *] <;> rfl) | rfl) (Or.inl (by simp only [go_sem, ↓reduceIte, reduceCtorEq, nA, nB, nC, nD, nE, nF, nG, nH, iA, *])) ?_
      · simp (maxDischargeDepth := 40) only [go_sem, ↓reduceIte, reduceCtorEq, nA, nB, nC, nD, nE, nF, nG, nH, iA, cast0, cast1, lA, lB, lC, lD, lE, mapV_nil, *]
      simp only [go_sem, ↓reduceIte, reduceCtorEq, nA, nB, nC, nD, nE, nF, nG, nH, iA, *]
      cases r2590
      simp (maxDischargeDepth := 40) only [go_sem, ↓reduceIte, reduceCtorEq, nA, nB, nC, nD, nE, nF, nG, nH, iA, cast0, cast1, lA, lB, lC, lD, lE, mapV_nil, *]
  | false =>
    simp only [h2254, ↓reduceIte, Bool.false_eq_true] at r2253
    refine call_meets ((ref07_Valid_ok h2252).le ?_) (by first | (simp only [go_sem, ↓reduceIte, reduceCtorEq, nA, nB, nC, nD, nE, nF, nG, nH, iA, *] <;> rfl) | rfl) ?_
    · simp (maxDischargeDepth := 40) only [go_sem, ↓reduceIte, reduceCtorEq, nA, nB, nC, nD, nE, nF, nG, nH, iA, cast0, cast1, lA, lB, lC, lD, lE, mapV_nil, *]
    simp only [go_sem, ↓reduceIte, reduceCtorEq, nA, nB, nC, nD, nE, nF, nG, nH, iA, *]
    cases r2253
    simp (maxDischargeDepth := 40) only [go_sem, ↓reduceIte, reduceCtorEq, nA, nB, nC, nD, nE, nF, nG, nH, iA, cast0, cast1, lA, lB, lC, lD, lE, mapV_nil, *]

def ref04_Of (a0 : Int) : Option ((Int × (List (ByteArray × Int)))) :=
  some (a0, [])
set_option maxHeartbeats 2000000 in
theorem ref04_Of_ok {a0 : Int} {r : (Int × (List (ByteArray × Int)))} (hr : ref04_Of a0 = some r) : Meets Try.prog 37 [.c (.int .i64 a0)] (.agg [.c (.int .i64 r.1), .sl false 2 (r.2.map e_api_Coef)]) := by
  unfold ref04_Of at hr
  refine meetsV_of (X := true) Ty.mixed Try.func37 (by kernel_rfl) rfl (by kernel_rfl) (by simp) ?_; rw [Try.ntmps37, Try.results37]
  simp only [go_sem, ↓reduceIte, reduceCtorEq, nA, nB, nC, nD, nE, nF, nG, nH, iA, *]
  cases hr
  simp (maxDischargeDepth := 40) only [go_sem, ↓reduceIte, reduceCtorEq, nA, nB, nC, nD, nE, nF, nG, nH, iA, cast0, cast1, lA, lB, lC, lD, lE, mapV_nil, *]

def ref07_Negate (a0 : Int × (List (ByteArray × Int))) : Option ((Int × (List (ByteArray × Int))) × Int) :=
  (ref04_Valid a0).bind fun y2729 =>
if y2729 then
  (ref04_Of (-1 : Int)).bind fun y2733 =>
  (ref04_Times y2733 a0 (-1 : Int)).bind fun y2736 =>
  (ref04_Valid y2736).bind fun y2739 =>
  if y2739 then
    some (y2736, (0 : Int))
  else
    some (((0 : Int), []), (3 : Int))
else
  some (((0 : Int), []), (1 : Int))
set_option maxHeartbeats 2000000 in
theorem ref07_Negate_ok {a0 : Int × (List (ByteArray × Int))} {r : (Int × (List (ByteArray × Int))) × Int} (hr : ref07_Negate a0 = some r) : Meets Try.prog 27 [.agg [.c (.int .i64 a0.1), .sl false 2 (a0.2.map e_api_Coef)]] (.tup [.agg [.c (.int .i64 r.1.1), .sl false 2 (r.1.2.map e_api_Coef)], .c (.int .i64 r.2)]) := by
  unfold ref07_Negate at hr
  refine meetsV_of (X := true) Ty.mixed Try.func27 (by kernel_rfl) rfl (by kernel_rfl) (by simp) ?_; rw [Try.ntmps27, Try.results27]
  simp only [go_sem, ↓reduceIte, reduceCtorEq, nA, nB, nC, nD, nE, nF, nG, nH, iA, *]
  obtain ⟨y2729, h2730, r2731⟩ := bindS hr
  clear hr
  try dsimp only at r2731
  cases h2732 : y2729 with
  | true =>
    simp only [h2732, ↓reduceIte, Bool.false_eq_true] at r2731
    refine call_meets ((ref04_Valid_ok h2730).le ?_) (by first | (simp only [go_sem, ↓reduceIte, reduceCtorEq, nA, nB, nC, nD, nE, nF, nG, nH, iA, *] <;> rfl) | rfl) ?_
    · simp (maxDischargeDepth := 40) only [go_sem, ↓reduceIte, reduceCtorEq, nA, nB, nC, nD, nE, nF, nG, nH, iA, cast0, cast1, lA, lB, lC, lD, lE, mapV_nil, *]
    simp only [go_sem, ↓reduceIte, reduceCtorEq, nA, nB, nC, nD, nE, nF, nG, nH, iA, *]
    refine drawS_wild ?_
    simp (config := {maxSteps := 2000000}) only [go_sem, ↓reduceIte, reduceCtorEq, nA, nB, nC, nD, nE, nF, nG, nH, iA, *]
    obtain ⟨y2733, h2734, r2735⟩ := bindS r2731
    clear r2731
    try dsimp only at r2735
    refine callx_meets ((ref04_Of_ok h2734).le ?_) (by first | (simp (config := {maxSteps := 2000000}) only [go_sem, ↓reduceIte, reduceCtorEq, nA, nB, nC, nD, nE, nF, nG, nH, iA, *] <;> rfl) | rfl) (by simp (config := {maxSteps := 2000000}) only [go_sem, ↓reduceIte, reduceCtorEq, nA, nB, nC, nD, nE, nF, nG, nH, iA, *]) ?_
    · simp (maxDischargeDepth := 40) only [go_sem, ↓reduceIte, reduceCtorEq, nA, nB, nC, nD, nE, nF, nG, nH, iA, cast0, cast1, lA, lB, lC, lD, lE, mapV_nil, *]
    simp (config := {maxSteps := 2000000}) only [go_sem, ↓reduceIte, reduceCtorEq, nA, nB, nC, nD, nE, nF, nG, nH, iA, *]
    obtain ⟨y2736, h2737, r2738⟩ := bindS r2735
    clear r2735
    try dsimp only at r2738
    refine callx_meets ((ref04_Times_ok h2737).le ?_) (by first | (simp (config := {maxSteps := 2000000}) only [go_sem, ↓reduceIte, reduceCtorEq, nA, nB, nC, nD, nE, nF, nG, nH, iA, *] <;> rfl) | rfl) (by simp (config := {maxSteps := 2000000}) only [go_sem, ↓reduceIte, reduceCtorEq, nA, nB, nC, nD, nE, nF, nG, nH, iA, *]) ?_
    · simp (maxDischargeDepth := 40) only [go_sem, ↓reduceIte, reduceCtorEq, nA, nB, nC, nD, nE, nF, nG, nH, iA, cast0, cast1, lA, lB, lC, lD, lE, mapV_nil, *]
    simp (config := {maxSteps := 2000000}) only [go_sem, ↓reduceIte, reduceCtorEq, nA, nB, nC, nD, nE, nF, nG, nH, iA, *]
    repeat refine ⟨by first | omega | (simp only [List.length_append, List.length_cons, List.length_nil, List.length_map, Nat.zero_add] at *; omega), ?_⟩
    first | refine ⟨by kernel_rfl, ?_⟩ | skip
    try simp only [go_sem, ↓reduceIte, reduceCtorEq, nA, nB, nC, nD, nE, nF, nG, nH, iA, *]
    obtain ⟨y2739, h2740, r2741⟩ := bindS r2738
    clear r2738
    try dsimp only at r2741
    cases h2742 : y2739 with
    | true =>
      simp only [h2742, ↓reduceIte, Bool.false_eq_true] at r2741
      refine call_meets ((ref04_Valid_ok h2740).le ?_) (by first | (simp only [go_sem, ↓reduceIte, reduceCtorEq, nA, nB, nC, nD, nE, nF, nG, nH, iA, *] <;> rfl) | rfl) ?_
      · simp (maxDischargeDepth := 40) only [go_sem, ↓reduceIte, reduceCtorEq, nA, nB, nC, nD, nE, nF, nG, nH, iA, cast0, cast1, lA, lB, lC, lD, lE, mapV_nil, *]
      simp only [go_sem, ↓reduceIte, reduceCtorEq, nA, nB, nC, nD, nE, nF, nG, nH, iA, *]
      cases r2741
      simp (maxDischargeDepth := 40) only [go_sem, ↓reduceIte, reduceCtorEq, nA, nB, nC, nD, nE, nF, nG, nH, iA, cast0, cast1, lA, lB, lC, lD, lE, mapV_nil, *]
    | false =>
      simp only [h2742, ↓reduceIte, Bool.false_eq_true] at r2741
      refine call_meets ((ref04_Valid_ok h2740).le ?_) (by first | (simp only [go_sem, ↓reduceIte, reduceCtorEq, nA, nB, nC, nD, nE, nF, nG, nH, iA, *] <;> rfl) | rfl) ?_
      · simp (maxDischargeDepth := 40) only [go_sem, ↓reduceIte, reduceCtorEq, nA, nB, nC, nD, nE, nF, nG, nH, iA, cast0, cast1, lA, lB, lC, lD, lE, mapV_nil, *]
      simp only [go_sem, ↓reduceIte, reduceCtorEq, nA, nB, nC, nD, nE, nF, nG, nH, iA, *]
      cases r2741
      simp (maxDischargeDepth := 40) only [go_sem, ↓reduceIte, reduceCtorEq, nA, nB, nC, nD, nE, nF, nG, nH, iA, cast0, cast1, lA, lB, lC, lD, lE, mapV_nil, *]
  | false =>
    simp only [h2732, ↓reduceIte, Bool.false_eq_true] at r2731
    refine call_meets ((ref04_Valid_ok h2730).le ?_) (by first | (simp only [go_sem, ↓reduceIte, reduceCtorEq, nA, nB, nC, nD, nE, nF, nG, nH, iA, *] <;> rfl) | rfl) ?_
    · simp (maxDischargeDepth := 40) only [go_sem, ↓reduceIte, reduceCtorEq, nA, nB, nC, nD, nE, nF, nG, nH, iA, cast0, cast1, lA, lB, lC, lD, lE, mapV_nil, *]
    simp only [go_sem, ↓reduceIte, reduceCtorEq, nA, nB, nC, nD, nE, nF, nG, nH, iA, *]
    cases r2731
    simp (maxDischargeDepth := 40) only [go_sem, ↓reduceIte, reduceCtorEq, nA, nB, nC, nD, nE, nF, nG, nH, iA, cast0, cast1, lA, lB, lC, lD, lE, mapV_nil, *]

def ref07_refutes : Nat → (List (Bool × (Int × (List (ByteArray × Int))))) → T_api_Cert → Option Bool
  | 0, _, _ => none
  | fuel + 1, a0, a1 =>
  (ref07_plain a1).bind fun y2703 =>
if y2703 then
  if (a1.f0 == (1 : Int)) then
    (ref07_combine a0 a1.f1).bind fun y2708 =>
    if y2708.2 then
      if (((y2708.1.2.length : Nat) : Int) == (0 : Int)) then
        some (decide (y2708.1.1 < (0 : Int)))
      else
        some false
    else
      some false
  else
    if (a1.f0 == (2 : Int)) then
      (ref07_Cut a0 a1.f1).bind fun y2714 =>
      if (y2714.2 == (0 : Int)) then
        iffO (decide (a0.length * 40 ≤ 140737488355328))
          (iffO (decide ((a0.length + 1) * 40 ≤ 140737488355328))
            ((a1.f3[0]?).bind fun x2722 =>
            (ref07_refutes fuel (a0 ++ [(false, y2714.1)]) x2722).bind fun y2726 =>
            some y2726))
      else
        some false
    else
      (ref07_Negate a1.f2).bind fun y2743 =>
      if (y2743.2 == (0 : Int)) then
        iffO (decide (a0.length * 40 ≤ 140737488355328))
          (iffO (decide ((a0.length + 1) * 40 ≤ 140737488355328))
            ((a1.f3[0]?).bind fun x2751 =>
            (ref07_refutes fuel (a0 ++ [(false, a1.f2)]) x2751).bind fun y2755 =>
            if y2755 then
              iffO (decide (a0.length * 40 ≤ 140737488355328))
                (iffO (decide ((a0.length + 1) * 40 ≤ 140737488355328))
                  ((a1.f3[1]?).bind fun x2763 =>
                  (ref07_refutes fuel (a0 ++ [(false, y2743.1)]) x2763).bind fun y2767 =>
                  some y2767))
            else
              some false))
      else
        some false
else
  some false
set_option maxHeartbeats 2000000 in
theorem ref07_refutes_all (fuel : Nat) : ∀ {a0 : List (Bool × (Int × (List (ByteArray × Int))))} {a1 : T_api_Cert} {r : Bool}, ref07_refutes fuel a0 a1 = some r → Meets Try.prog 42 [.sl false 3 (a0.map e_api_Fact), .agg [.c (.int .i64 a1.f0), .sl false 1 (a1.f1.map e_int), .c (.int .i64 a1.f2.1), .sl false 2 (a1.f2.2.map e_api_Coef), .sl false 5 (a1.f3.map e_api_Cert)]] (.c (.bool r)) := by
  induction fuel with
  | zero =>
    · intro a0 a1 r hr
      rw [ref07_refutes] at hr
      cases hr
  | succ fuel ih =>
    have ih_ref07_refutes := @ih
    · intro a0 a1 r hr
      rw [ref07_refutes] at hr
      refine meetsV_of (X := true) Ty.mixed Try.func42 (by kernel_rfl) rfl (by kernel_rfl) (by simp) ?_; rw [Try.ntmps42, Try.results42]
      simp only [go_sem, ↓reduceIte, reduceCtorEq, nA, nB, nC, nD, nE, nF, nG, nH, iA, *]
      obtain ⟨y2703, h2704, r2705⟩ := bindS hr
      clear hr
      try dsimp only at r2705
      cases h2706 : y2703 with
      | true =>
        simp only [h2706, ↓reduceIte, Bool.false_eq_true] at r2705
        cases h2707 : (a1.f0 == (1 : Int)) with
        | true =>
          simp only [h2707, ↓reduceIte, Bool.false_eq_true] at r2705
          refine call_meets ((ref07_plain_ok h2704).le ?_) (by first | (simp only [go_sem, ↓reduceIte, reduceCtorEq, nA, nB, nC, nD, nE, nF, nG, nH, iA, *] <;> rfl) | rfl) ?_
          · simp (maxDischargeDepth := 40) only [go_sem, ↓reduceIte, reduceCtorEq, nA, nB, nC, nD, nE, nF, nG, nH, iA, cast0, cast1, lA, lB, lC, lD, lE, mapV_nil, *]
          simp only [go_sem, ↓reduceIte, reduceCtorEq, nA, nB, nC, nD, nE, nF, nG, nH, iA, *]
          obtain ⟨y2708, h2709, r2710⟩ := bindS r2705
          clear r2705
          try dsimp only at r2710
          cases h2711 : y2708.2 with
          | true =>
            simp only [h2711, ↓reduceIte, Bool.false_eq_true] at r2710
            cases h2712 : (((y2708.1.2.length : Nat) : Int) == (0 : Int)) with
            | true =>
              simp only [h2712, ↓reduceIte, Bool.false_eq_true] at r2710
              refine call_meets ((ref07_combine_ok h2709).le ?_) (by first | (simp only [go_sem, ↓reduceIte, reduceCtorEq, nA, nB, nC, nD, nE, nF, nG, nH, iA, *] <;> rfl) | rfl) ?_
              · simp (maxDischargeDepth := 40) only [go_sem, ↓reduceIte, reduceCtorEq, nA, nB, nC, nD, nE, nF, nG, nH, iA, cast0, cast1, lA, lB, lC, lD, lE, mapV_nil, *]
              simp only [go_sem, ↓reduceIte, reduceCtorEq, nA, nB, nC, nD, nE, nF, nG, nH, iA, *]
              cases r2710
              simp (maxDischargeDepth := 40) only [go_sem, ↓reduceIte, reduceCtorEq, nA, nB, nC, nD, nE, nF, nG, nH, iA, cast0, cast1, lA, lB, lC, lD, lE, mapV_nil, *]
            | false =>
              simp only [h2712, ↓reduceIte, Bool.false_eq_true] at r2710
              refine call_meets ((ref07_combine_ok h2709).le ?_) (by first | (simp only [go_sem, ↓reduceIte, reduceCtorEq, nA, nB, nC, nD, nE, nF, nG, nH, iA, *] <;> rfl) | rfl) ?_
              · simp (maxDischargeDepth := 40) only [go_sem, ↓reduceIte, reduceCtorEq, nA, nB, nC, nD, nE, nF, nG, nH, iA, cast0, cast1, lA, lB, lC, lD, lE, mapV_nil, *]
              simp only [go_sem, ↓reduceIte, reduceCtorEq, nA, nB, nC, nD, nE, nF, nG, nH, iA, *]
              cases r2710
              simp (maxDischargeDepth := 40) only [go_sem, ↓reduceIte, reduceCtorEq, nA, nB, nC, nD, nE, nF, nG, nH, iA, cast0, cast1, lA, lB, lC, lD, lE, mapV_nil, *]
          | false =>
            simp only [h2711, ↓reduceIte, Bool.false_eq_true] at r2710
            refine call_meets ((ref07_combine_ok h2709).le ?_) (by first | (simp only [go_sem, ↓reduceIte, reduceCtorEq, nA, nB, nC, nD, nE, nF, nG, nH, iA, *] <;> rfl) | rfl) ?_
            · simp (maxDischargeDepth := 40) only [go_sem, ↓reduceIte, reduceCtorEq, nA, nB, nC, nD, nE, nF, nG, nH, iA, cast0, cast1, lA, lB, lC, lD, lE, mapV_nil, *]
            simp only [go_sem, ↓reduceIte, reduceCtorEq, nA, nB, nC, nD, nE, nF, nG, nH, iA, *]
            cases r2710
            simp (maxDischargeDepth := 40) only [go_sem, ↓reduceIte, reduceCtorEq, nA, nB, nC, nD, nE, nF, nG, nH, iA, cast0, cast1, lA, lB, lC, lD, lE, mapV_nil, *]
        | false =>
          simp only [h2707, ↓reduceIte, Bool.false_eq_true] at r2705
          cases h2713 : (a1.f0 == (2 : Int)) with
          | true =>
            simp only [h2713, ↓reduceIte, Bool.false_eq_true] at r2705
            refine call_meets ((ref07_plain_ok h2704).le ?_) (by first | (simp only [go_sem, ↓reduceIte, reduceCtorEq, nA, nB, nC, nD, nE, nF, nG, nH, iA, *] <;> rfl) | rfl) ?_
            · simp (maxDischargeDepth := 40) only [go_sem, ↓reduceIte, reduceCtorEq, nA, nB, nC, nD, nE, nF, nG, nH, iA, cast0, cast1, lA, lB, lC, lD, lE, mapV_nil, *]
            simp only [go_sem, ↓reduceIte, reduceCtorEq, nA, nB, nC, nD, nE, nF, nG, nH, iA, *]
            obtain ⟨y2714, h2715, r2716⟩ := bindS r2705
            clear r2705
            try dsimp only at r2716
            refine call_meets ((ref07_Cut_ok h2715).le ?_) (by first | (simp only [go_sem, ↓reduceIte, reduceCtorEq, nA, nB, nC, nD, nE, nF, nG, nH, iA, *] <;> rfl) | rfl) ?_
            · simp (maxDischargeDepth := 40) only [go_sem, ↓reduceIte, reduceCtorEq, nA, nB, nC, nD, nE, nF, nG, nH, iA, cast0, cast1, lA, lB, lC, lD, lE, mapV_nil, *]
            simp only [go_sem, ↓reduceIte, reduceCtorEq, nA, nB, nC, nD, nE, nF, nG, nH, iA, *]
            cases h2717 : (y2714.2 == (0 : Int)) with
            | true =>
              simp only [h2717, ↓reduceIte, Bool.false_eq_true] at r2716
              obtain ⟨h2718, r2719⟩ := iffO_some r2716
              clear r2716
              simp only [Bool.and_eq_true, decide_eq_true_eq] at h2718
              obtain ⟨h2720, r2721⟩ := iffO_some r2719
              clear r2719
              simp only [Bool.and_eq_true, decide_eq_true_eq] at h2720
              obtain ⟨x2722, h2723, r2724⟩ := bindS r2721
              clear r2721
              try dsimp only at r2724
              refine drawS_wild ?_
              have g70 := get_map e_api_Cert h2723
              simp (config := {maxSteps := 2000000}) only [go_sem, ↓reduceIte, reduceCtorEq, nA, nB, nC, nD, nE, nF, nG, nH, iA, *]
              repeat refine ⟨by first | omega | (simp only [List.length_append, List.length_cons, List.length_nil, List.length_map, Nat.zero_add] at *; omega), ?_⟩
              obtain ⟨y2726, h2727, r2728⟩ := bindS r2724
              clear r2724
              try dsimp only at r2728
              refine callx_meets ((ih_ref07_refutes h2727).le ?_) (by first | (simp (config := {maxSteps := 2000000}) only [go_sem, ↓reduceIte, reduceCtorEq, nA, nB, nC, nD, nE, nF, nG, nH, iA, *] <;> rfl) | rfl) (by simp (config := {maxSteps := 2000000}) only [go_sem, ↓reduceIte, reduceCtorEq, nA, nB, nC, nD, nE, nF, nG, nH, iA, *]) ?_
              · simp (maxDischargeDepth := 40) only [go_sem, ↓reduceIte, reduceCtorEq, nA, nB, nC, nD, nE, nF, nG, nH, iA, cast0, cast1, lA, lB, lC, lD, lE, mapV_nil, *]
              simp (config := {maxSteps := 2000000}) only [go_sem, ↓reduceIte, reduceCtorEq, nA, nB, nC, nD, nE, nF, nG, nH, iA, *]
              repeat refine ⟨by first | omega | (simp only [List.length_append, List.length_cons, List.length_nil, List.length_map, Nat.zero_add] at *; omega), ?_⟩
              first | refine ⟨by kernel_rfl, ?_⟩ | skip
              try simp only [go_sem, ↓reduceIte, reduceCtorEq, nA, nB, nC, nD, nE, nF, nG, nH, iA, *]
              cases r2728
              simp (maxDischargeDepth := 40) only [go_sem, ↓reduceIte, reduceCtorEq, nA, nB, nC, nD, nE, nF, nG, nH, iA, cast0, cast1, lA, lB, lC, lD, lE, mapV_nil, *]
            | false =>
              simp only [h2717, ↓reduceIte, Bool.false_eq_true] at r2716
              refine drawS_wild ?_
              simp (config := {maxSteps := 2000000}) only [go_sem, ↓reduceIte, reduceCtorEq, nA, nB, nC, nD, nE, nF, nG, nH, iA, *]
              repeat refine ⟨by first | omega | (simp only [List.length_append, List.length_cons, List.length_nil, List.length_map, Nat.zero_add] at *; omega), ?_⟩
              first | refine ⟨by kernel_rfl, ?_⟩ | skip
              try simp only [go_sem, ↓reduceIte, reduceCtorEq, nA, nB, nC, nD, nE, nF, nG, nH, iA, *]
              cases r2716
              simp (maxDischargeDepth := 40) only [go_sem, ↓reduceIte, reduceCtorEq, nA, nB, nC, nD, nE, nF, nG, nH, iA, cast0, cast1, lA, lB, lC, lD, lE, mapV_nil, *]
          | false =>
            simp only [h2713, ↓reduceIte, Bool.false_eq_true] at r2705
            refine call_meets ((ref07_plain_ok h2704).le ?_) (by first | (simp only [go_sem, ↓reduceIte, reduceCtorEq, nA, nB, nC, nD, nE, nF, nG, nH, iA, *] <;> rfl) | rfl) ?_
            · simp (maxDischargeDepth := 40) only [go_sem, ↓reduceIte, reduceCtorEq, nA, nB, nC, nD, nE, nF, nG, nH, iA, cast0, cast1, lA, lB, lC, lD, lE, mapV_nil, *]
            simp only [go_sem, ↓reduceIte, reduceCtorEq, nA, nB, nC, nD, nE, nF, nG, nH, iA, *]
            obtain ⟨y2743, h2744, r2745⟩ := bindS r2705
            clear r2705
            try dsimp only at r2745
            refine call_meets ((ref07_Negate_ok h2744).le ?_) (by first | (simp only [go_sem, ↓reduceIte, reduceCtorEq, nA, nB, nC, nD, nE, nF, nG, nH, iA, *] <;> rfl) | rfl) ?_
            · simp (maxDischargeDepth := 40) only [go_sem, ↓reduceIte, reduceCtorEq, nA, nB, nC, nD, nE, nF, nG, nH, iA, cast0, cast1, lA, lB, lC, lD, lE, mapV_nil, *]
            simp only [go_sem, ↓reduceIte, reduceCtorEq, nA, nB, nC, nD, nE, nF, nG, nH, iA, *]
            cases h2746 : (y2743.2 == (0 : Int)) with
            | true =>
              simp only [h2746, ↓reduceIte, Bool.false_eq_true] at r2745
              obtain ⟨h2747, r2748⟩ := iffO_some r2745
              clear r2745
              simp only [Bool.and_eq_true, decide_eq_true_eq] at h2747
              obtain ⟨h2749, r2750⟩ := iffO_some r2748
              clear r2748
              simp only [Bool.and_eq_true, decide_eq_true_eq] at h2749
              obtain ⟨x2751, h2752, r2753⟩ := bindS r2750
              clear r2750
              try dsimp only at r2753
              refine drawS_wild ?_
              have g71 := get_map e_api_Cert h2752
              simp (config := {maxSteps := 2000000}) only [go_sem, ↓reduceIte, reduceCtorEq, nA, nB, nC, nD, nE, nF, nG, nH, iA, *]
              repeat refine ⟨by first | omega | (simp only [List.length_append, List.length_cons, List.length_nil, List.length_map, Nat.zero_add] at *; omega), ?_⟩
              obtain ⟨y2755, h2756, r2757⟩ := bindS r2753
              clear r2753
              try dsimp only at r2757
              cases h2758 : y2755 with
              | true =>
                simp only [h2758, ↓reduceIte, Bool.false_eq_true] at r2757
                obtain ⟨h2759, r2760⟩ := iffO_some r2757
                clear r2757
                simp only [Bool.and_eq_true, decide_eq_true_eq] at h2759
                obtain ⟨h2761, r2762⟩ := iffO_some r2760
                clear r2760
                simp only [Bool.and_eq_true, decide_eq_true_eq] at h2761
                obtain ⟨x2763, h2764, r2765⟩ := bindS r2762
                clear r2762
                try dsimp only at r2765
                have g72 := (by decide : (0 : Int) ≤ 1)
                have g73 := get_map e_api_Cert h2764
                refine callx_meets ((ih_ref07_refutes h2756).le ?_) (by first | (simp (config := {maxSteps := 2000000}) only [go_sem, ↓reduceIte, reduceCtorEq, nA, nB, nC, nD, nE, nF, nG, nH, iA, *] <;> rfl) | rfl) (by simp (config := {maxSteps := 2000000}) only [go_sem, ↓reduceIte, reduceCtorEq, nA, nB, nC, nD, nE, nF, nG, nH, iA, *]) ?_
                · simp (maxDischargeDepth := 40) only [go_sem, ↓reduceIte, reduceCtorEq, nA, nB, nC, nD, nE, nF, nG, nH, iA, cast0, cast1, lA, lB, lC, lD, lE, mapV_nil, *]
                simp (config := {maxSteps := 2000000}) only [go_sem, ↓reduceIte, reduceCtorEq, nA, nB, nC, nD, nE, nF, nG, nH, iA, *]
                repeat refine ⟨by first | omega | (simp only [List.length_append, List.length_cons, List.length_nil, List.length_map, Nat.zero_add] at *; omega), ?_⟩
                obtain ⟨y2767, h2768, r2769⟩ := bindS r2765
                clear r2765
                try dsimp only at r2769
                refine callx_meets ((ih_ref07_refutes h2768).le ?_) (by first | (simp (config := {maxSteps := 2000000}) only [go_sem, ↓reduceIte, reduceCtorEq, nA, nB, nC, nD, nE, nF, nG, nH, iA, *] <;> rfl) | rfl) (by simp (config := {maxSteps := 2000000}) only [go_sem, ↓reduceIte, reduceCtorEq, nA, nB, nC, nD, nE, nF, nG, nH, iA, *]) ?_
                · simp (maxDischargeDepth := 40) only [go_sem, ↓reduceIte, reduceCtorEq, nA, nB, nC, nD, nE, nF, nG, nH, iA, cast0, cast1, lA, lB, lC, lD, lE, mapV_nil, *]
                simp (config := {maxSteps := 2000000}) only [go_sem, ↓reduceIte, reduceCtorEq, nA, nB, nC, nD, nE, nF, nG, nH, iA, *]
                repeat refine ⟨by first | omega | (simp only [List.length_append, List.length_cons, List.length_nil, List.length_map, Nat.zero_add] at *; omega), ?_⟩
                first | refine ⟨by kernel_rfl, ?_⟩ | skip
                try simp only [go_sem, ↓reduceIte, reduceCtorEq, nA, nB, nC, nD, nE, nF, nG, nH, iA, *]
                cases r2769
                simp (maxDischargeDepth := 40) only [go_sem, ↓reduceIte, reduceCtorEq, nA, nB, nC, nD, nE, nF, nG, nH, iA, cast0, cast1, lA, lB, lC, lD, lE, mapV_nil, *]
              | false =>
                simp only [h2758, ↓reduceIte, Bool.false_eq_true] at r2757
                refine callx_meets ((ih_ref07_refutes h2756).le ?_) (by first | (simp (config := {maxSteps := 2000000}) only [go_sem, ↓reduceIte, reduceCtorEq, nA, nB, nC, nD, nE, nF, nG, nH, iA, *] <;> rfl) | rfl) (by simp (config := {maxSteps := 2000000}) only [go_sem, ↓reduceIte, reduceCtorEq, nA, nB, nC, nD, nE, nF, nG, nH, iA, *]) ?_
                · simp (maxDischargeDepth := 40) only [go_sem, ↓reduceIte, reduceCtorEq, nA, nB, nC, nD, nE, nF, nG, nH, iA, cast0, cast1, lA, lB, lC, lD, lE, mapV_nil, *]
                simp (config := {maxSteps := 2000000}) only [go_sem, ↓reduceIte, reduceCtorEq, nA, nB, nC, nD, nE, nF, nG, nH, iA, *]
                repeat refine ⟨by first | omega | (simp only [List.length_append, List.length_cons, List.length_nil, List.length_map, Nat.zero_add] at *; omega), ?_⟩
                first | refine ⟨by kernel_rfl, ?_⟩ | skip
                try simp only [go_sem, ↓reduceIte, reduceCtorEq, nA, nB, nC, nD, nE, nF, nG, nH, iA, *]
                cases r2757
                simp (maxDischargeDepth := 40) only [go_sem, ↓reduceIte, reduceCtorEq, nA, nB, nC, nD, nE, nF, nG, nH, iA, cast0, cast1, lA, lB, lC, lD, lE, mapV_nil, *]
            | false =>
              simp only [h2746, ↓reduceIte, Bool.false_eq_true] at r2745
              refine drawS_wild ?_
              simp (config := {maxSteps := 2000000}) only [go_sem, ↓reduceIte, reduceCtorEq, nA, nB, nC, nD, nE, nF, nG, nH, iA, *]
              repeat refine ⟨by first | omega | (simp only [List.length_append, List.length_cons, List.length_nil, List.length_map, Nat.zero_add] at *; omega), ?_⟩
              first | refine ⟨by kernel_rfl, ?_⟩ | skip
              try simp only [go_sem, ↓reduceIte, reduceCtorEq, nA, nB, nC, nD, nE, nF, nG, nH, iA, *]
              cases r2745
              simp (maxDischargeDepth := 40) only [go_sem, ↓reduceIte, reduceCtorEq, nA, nB, nC, nD, nE, nF, nG, nH, iA, cast0, cast1, lA, lB, lC, lD, lE, mapV_nil, *]
      | false =>
        simp only [h2706, ↓reduceIte, Bool.false_eq_true] at r2705
        refine call_meets ((ref07_plain_ok h2704).le ?_) (by first | (simp only [go_sem, ↓reduceIte, reduceCtorEq, nA, nB, nC, nD, nE, nF, nG, nH, iA, *] <;> rfl) | rfl) ?_
        · simp (maxDischargeDepth := 40) only [go_sem, ↓reduceIte, reduceCtorEq, nA, nB, nC, nD, nE, nF, nG, nH, iA, cast0, cast1, lA, lB, lC, lD, lE, mapV_nil, *]
        simp only [go_sem, ↓reduceIte, reduceCtorEq, nA, nB, nC, nD, nE, nF, nG, nH, iA, *]
        cases r2705
        simp (maxDischargeDepth := 40) only [go_sem, ↓reduceIte, reduceCtorEq, nA, nB, nC, nD, nE, nF, nG, nH, iA, cast0, cast1, lA, lB, lC, lD, lE, mapV_nil, *]
theorem ref07_refutes_ok {fuel : Nat} : ∀ {a0 : List (Bool × (Int × (List (ByteArray × Int))))} {a1 : T_api_Cert} {r : Bool}, ref07_refutes fuel a0 a1 = some r → Meets Try.prog 42 [.sl false 3 (a0.map e_api_Fact), .agg [.c (.int .i64 a1.f0), .sl false 1 (a1.f1.map e_int), .c (.int .i64 a1.f2.1), .sl false 2 (a1.f2.2.map e_api_Coef), .sl false 5 (a1.f3.map e_api_Cert)]] (.c (.bool r)) := ref07_refutes_all fuel

def ref07_Check (a0 : List (Bool × (Int × (List (ByteArray × Int))))) (a1 : T_api_Cert) : Option Int :=
  (ref07_Valid a0).bind fun y1705 =>
if y1705 then
  if (decide ((100 : Int) < ((a0.length : Nat) : Int))) then
    some (3 : Int)
  else
    (ref07_Size 4611686018427387904 a1).bind fun y1749 =>
    if (decide ((1000 : Int) < y1749)) then
      some (3 : Int)
    else
      (ref07_refutes 4611686018427387904 a0 a1).bind fun y2770 =>
      if y2770 then
        some (0 : Int)
      else
        some (18 : Int)
else
  some (1 : Int)
set_option maxHeartbeats 2000000 in
theorem ref07_Check_ok {a0 : List (Bool × (Int × (List (ByteArray × Int))))} {a1 : T_api_Cert} {r : Int} (hr : ref07_Check a0 a1 = some r) : Meets Try.prog 14 [.sl false 3 (a0.map e_api_Fact), .agg [.c (.int .i64 a1.f0), .sl false 1 (a1.f1.map e_int), .c (.int .i64 a1.f2.1), .sl false 2 (a1.f2.2.map e_api_Coef), .sl false 5 (a1.f3.map e_api_Cert)]] (.c (.int .i64 r)) := by
  unfold ref07_Check at hr
  refine meetsV_of (X := true) Ty.mixed Try.func14 (by kernel_rfl) rfl (by kernel_rfl) (by simp) ?_; rw [Try.ntmps14, Try.results14]
  simp only [go_sem, ↓reduceIte, reduceCtorEq, nA, nB, nC, nD, nE, nF, nG, nH, iA, *]
  obtain ⟨y1705, h1706, r1707⟩ := bindS hr
  clear hr
  try dsimp only at r1707
  cases h1708 : y1705 with
  | true =>
    simp only [h1708, ↓reduceIte, Bool.false_eq_true] at r1707
    cases h1709 : (decide ((100 : Int) < ((a0.length : Nat) : Int))) with
    | true =>
      simp only [h1709, ↓reduceIte, Bool.false_eq_true] at r1707
      refine call_meets ((ref07_Valid_ok h1706).le ?_) (by first | (simp only [go_sem, ↓reduceIte, reduceCtorEq, nA, nB, nC, nD, nE, nF, nG, nH, iA, *] <;> rfl) | rfl) ?_
      · simp (maxDischargeDepth := 40) only [go_sem, ↓reduceIte, reduceCtorEq, nA, nB, nC, nD, nE, nF, nG, nH, iA, cast0, cast1, lA, lB, lC, lD, lE, mapV_nil, *]
      simp only [go_sem, ↓reduceIte, reduceCtorEq, nA, nB, nC, nD, nE, nF, nG, nH, iA, *]
      cases r1707
      simp (maxDischargeDepth := 40) only [go_sem, ↓reduceIte, reduceCtorEq, nA, nB, nC, nD, nE, nF, nG, nH, iA, cast0, cast1, lA, lB, lC, lD, lE, mapV_nil, *]
    | false =>
      simp only [h1709, ↓reduceIte, Bool.false_eq_true] at r1707
      refine call_meets ((ref07_Valid_ok h1706).le ?_) (by first | (simp only [go_sem, ↓reduceIte, reduceCtorEq, nA, nB, nC, nD, nE, nF, nG, nH, iA, *] <;> rfl) | rfl) ?_
      · simp (maxDischargeDepth := 40) only [go_sem, ↓reduceIte, reduceCtorEq, nA, nB, nC, nD, nE, nF, nG, nH, iA, cast0, cast1, lA, lB, lC, lD, lE, mapV_nil, *]
      simp only [go_sem, ↓reduceIte, reduceCtorEq, nA, nB, nC, nD, nE, nF, nG, nH, iA, *]
      obtain ⟨y1749, h1750, r1751⟩ := bindS r1707
      clear r1707
      try dsimp only at r1751
      cases h1752 : (decide ((1000 : Int) < y1749)) with
      | true =>
        simp only [h1752, ↓reduceIte, Bool.false_eq_true] at r1751
        refine call_meets ((ref07_Size_ok h1750).le ?_) (by first | (simp only [go_sem, ↓reduceIte, reduceCtorEq, nA, nB, nC, nD, nE, nF, nG, nH, iA, *] <;> rfl) | rfl) ?_
        · simp (maxDischargeDepth := 40) only [go_sem, ↓reduceIte, reduceCtorEq, nA, nB, nC, nD, nE, nF, nG, nH, iA, cast0, cast1, lA, lB, lC, lD, lE, mapV_nil, *]
        simp only [go_sem, ↓reduceIte, reduceCtorEq, nA, nB, nC, nD, nE, nF, nG, nH, iA, *]
        cases r1751
        simp (maxDischargeDepth := 40) only [go_sem, ↓reduceIte, reduceCtorEq, nA, nB, nC, nD, nE, nF, nG, nH, iA, cast0, cast1, lA, lB, lC, lD, lE, mapV_nil, *]
      | false =>
        simp only [h1752, ↓reduceIte, Bool.false_eq_true] at r1751
        refine call_meets ((ref07_Size_ok h1750).le ?_) (by first | (simp only [go_sem, ↓reduceIte, reduceCtorEq, nA, nB, nC, nD, nE, nF, nG, nH, iA, *] <;> rfl) | rfl) ?_
        · simp (maxDischargeDepth := 40) only [go_sem, ↓reduceIte, reduceCtorEq, nA, nB, nC, nD, nE, nF, nG, nH, iA, cast0, cast1, lA, lB, lC, lD, lE, mapV_nil, *]
        simp only [go_sem, ↓reduceIte, reduceCtorEq, nA, nB, nC, nD, nE, nF, nG, nH, iA, *]
        obtain ⟨y2770, h2771, r2772⟩ := bindS r1751
        clear r1751
        try dsimp only at r2772
        cases h2773 : y2770 with
        | true =>
          simp only [h2773, ↓reduceIte, Bool.false_eq_true] at r2772
          refine call_meets ((ref07_refutes_ok h2771).le ?_) (by first | (simp only [go_sem, ↓reduceIte, reduceCtorEq, nA, nB, nC, nD, nE, nF, nG, nH, iA, *] <;> rfl) | rfl) ?_
          · simp (maxDischargeDepth := 40) only [go_sem, ↓reduceIte, reduceCtorEq, nA, nB, nC, nD, nE, nF, nG, nH, iA, cast0, cast1, lA, lB, lC, lD, lE, mapV_nil, *]
          simp only [go_sem, ↓reduceIte, reduceCtorEq, nA, nB, nC, nD, nE, nF, nG, nH, iA, *]
          cases r2772
          simp (maxDischargeDepth := 40) only [go_sem, ↓reduceIte, reduceCtorEq, nA, nB, nC, nD, nE, nF, nG, nH, iA, cast0, cast1, lA, lB, lC, lD, lE, mapV_nil, *]
        | false =>
          simp only [h2773, ↓reduceIte, Bool.false_eq_true] at r2772
          refine call_meets ((ref07_refutes_ok h2771).le ?_) (by first | (simp only [go_sem, ↓reduceIte, reduceCtorEq, nA, nB, nC, nD, nE, nF, nG, nH, iA, *] <;> rfl) | rfl) ?_
          · simp (maxDischargeDepth := 40) only [go_sem, ↓reduceIte, reduceCtorEq, nA, nB, nC, nD, nE, nF, nG, nH, iA, cast0, cast1, lA, lB, lC, lD, lE, mapV_nil, *]
          simp only [go_sem, ↓reduceIte, reduceCtorEq, nA, nB, nC, nD, nE, nF, nG, nH, iA, *]
          cases r2772
          simp (maxDischargeDepth := 40) only [go_sem, ↓reduceIte, reduceCtorEq, nA, nB, nC, nD, nE, nF, nG, nH, iA, cast0, cast1, lA, lB, lC, lD, lE, mapV_nil, *]
  | false =>
    simp only [h1708, ↓reduceIte, Bool.false_eq_true] at r1707
    refine call_meets ((ref07_Valid_ok h1706).le ?_) (by first | (simp only [go_sem, ↓reduceIte, reduceCtorEq, nA, nB, nC, nD, nE, nF, nG, nH, iA, *] <;> rfl) | rfl) ?_
    · simp (maxDischargeDepth := 40) only [go_sem, ↓reduceIte, reduceCtorEq, nA, nB, nC, nD, nE, nF, nG, nH, iA, cast0, cast1, lA, lB, lC, lD, lE, mapV_nil, *]
    simp only [go_sem, ↓reduceIte, reduceCtorEq, nA, nB, nC, nD, nE, nF, nG, nH, iA, *]
    cases r1707
    simp (maxDischargeDepth := 40) only [go_sem, ↓reduceIte, reduceCtorEq, nA, nB, nC, nD, nE, nF, nG, nH, iA, cast0, cast1, lA, lB, lC, lD, lE, mapV_nil, *]

def ref07_Facts (a0 : List (Int × (List (ByteArray × Int)))) : Option ((List (Bool × (Int × (List (ByteArray × Int)))))) :=
  (forC (R := (List (Bool × (Int × (List (ByteArray × Int)))))) (a0.length) ([] : (List (Bool × (Int × (List (ByteArray × Int)))))) fun k3010 s3009 =>
  (a0[k3010]?).bind fun x3018 =>
  iffO (decide ((s3009.length + 1) * 40 ≤ 140737488355328))
    (some (.nx (s3009 ++ [(false, x3018)])))).bind (Sum.elim (fun s3009 =>
  some s3009) some)
set_option maxHeartbeats 2000000 in
theorem ref07_Facts_ok {a0 : List (Int × (List (ByteArray × Int)))} {r : (List (Bool × (Int × (List (ByteArray × Int)))))} (hr : ref07_Facts a0 = some r) : Meets Try.prog 30 [.sl false 2 (a0.map e_api_Linear)] (.sl false 3 (r.map e_api_Fact)) := by
  unfold ref07_Facts at hr
  refine meetsV_of (X := true) Ty.mixed Try.func30 (by kernel_rfl) rfl (by kernel_rfl) (by simp) ?_; rw [Try.ntmps30, Try.results30]
  simp only [go_sem, ↓reduceIte, reduceCtorEq, nA, nB, nC, nD, nE, nF, nG, nH, iA, *]
  refine loop_for hr (fun k3010 s3009 => ⟨20, [(0, .sl false 2 (a0.map e_api_Linear)), (3, .own 0 3 s3009.length), (4, .c (.int .i64 (k3010 : Int)))], [some (.row 51 3 (s3009.map e_api_Fact))]⟩) ?_ ?_ ?_
  · try dsimp only
    refine LeS.pick [none] rfl rfl ?_ ?_
    all_goals simp (maxDischargeDepth := 40) only [go_sem, ↓reduceIte, reduceCtorEq, nA, nB, nC, nD, nE, nF, nG, nH, iA, cast0, cast1, lA, lB, lC, lD, lE, mapV_nil, *]
  · intro k3010 s3009 qhc3012 h3013 h3014 h3015 h3016 hq3011 hc3012 Khc3012 hKhc3012
    try dsimp only at hq3011
    obtain ⟨x3018, h3019, r3020⟩ := bindS hq3011
    clear hq3011
    try dsimp only at r3020
    obtain ⟨h3022, r3023⟩ := iffO_some r3020
    clear r3020
    simp only [Bool.and_eq_true, decide_eq_true_eq] at h3022
    have g89 := get_map e_api_Linear h3019
    simp only [go_sem, ↓reduceIte, reduceCtorEq, nA, nB, nC, nD, nE, nF, nG, nH, iA, *]
    repeat refine ⟨by first | omega | (simp only [List.length_append, List.length_cons, List.length_nil, List.length_map, Nat.zero_add] at *; omega), ?_⟩
    cases r3023
    refine hKhc3012 _ _ rfl ?_
    try dsimp only
    refine LeS.pick [some 0] rfl rfl ?_ ?_
    all_goals simp (maxDischargeDepth := 40) only [go_sem, ↓reduceIte, reduceCtorEq, nA, nB, nC, nD, nE, nF, nG, nH, iA, cast0, cast1, lA, lB, lC, lD, lE, mapV_nil, *]
  · clear hr
    intro s3009 hr h3013 h3017 Khc3012
    dsimp only [Sum.elim_inl] at hr
    simp only [go_sem, ↓reduceIte, reduceCtorEq, nA, nB, nC, nD, nE, nF, nG, nH, iA, *]
    cases hr
    simp (maxDischargeDepth := 40) only [go_sem, ↓reduceIte, reduceCtorEq, nA, nB, nC, nD, nE, nF, nG, nH, iA, cast0, cast1, lA, lB, lC, lD, lE, mapV_nil, *]

set_option maxHeartbeats 2000000 in
theorem ref07_Facts_okO {a0 : List (Int × (List (ByteArray × Int)))} {r : (List (Bool × (Int × (List (ByteArray × Int)))))} (hr : ref07_Facts a0 = some r) : MeetsO Try.prog 30 [.sl false 2 (a0.map e_api_Linear)] (.own 0 3 (r.length)) [some (.row 51 3 (r.map e_api_Fact))] := by
  unfold ref07_Facts at hr
  refine meetsG_of (X := true) Ty.mixed Try.func30 (by kernel_rfl) rfl (by kernel_rfl) (by simp) ?_; rw [Try.ntmps30, Try.results30]
  simp only [go_sem, ↓reduceIte, reduceCtorEq, nA, nB, nC, nD, nE, nF, nG, nH, iA, *]
  refine loop_for hr (fun k3052 s3051 => ⟨20, [(0, .sl false 2 (a0.map e_api_Linear)), (3, .own 0 3 s3051.length), (4, .c (.int .i64 (k3052 : Int)))], [some (.row 51 3 (s3051.map e_api_Fact))]⟩) ?_ ?_ ?_
  · try dsimp only
    refine LeS.pick [none] rfl rfl ?_ ?_
    all_goals simp (maxDischargeDepth := 40) only [go_sem, ↓reduceIte, reduceCtorEq, nA, nB, nC, nD, nE, nF, nG, nH, iA, cast0, cast1, lA, lB, lC, lD, lE, mapV_nil, *]
  · intro k3052 s3051 qhc3054 h3055 h3056 h3057 h3058 hq3053 hc3054 Khc3054 hKhc3054
    try dsimp only at hq3053
    obtain ⟨x3060, h3061, r3062⟩ := bindS hq3053
    clear hq3053
    try dsimp only at r3062
    obtain ⟨h3064, r3065⟩ := iffO_some r3062
    clear r3062
    simp only [Bool.and_eq_true, decide_eq_true_eq] at h3064
    have g90 := get_map e_api_Linear h3061
    simp only [go_sem, ↓reduceIte, reduceCtorEq, nA, nB, nC, nD, nE, nF, nG, nH, iA, *]
    repeat refine ⟨by first | omega | (simp only [List.length_append, List.length_cons, List.length_nil, List.length_map, Nat.zero_add] at *; omega), ?_⟩
    cases r3065
    refine hKhc3054 _ _ rfl ?_
    try dsimp only
    refine LeS.pick [some 0] rfl rfl ?_ ?_
    all_goals simp (maxDischargeDepth := 40) only [go_sem, ↓reduceIte, reduceCtorEq, nA, nB, nC, nD, nE, nF, nG, nH, iA, cast0, cast1, lA, lB, lC, lD, lE, mapV_nil, *]
  · clear hr
    intro s3051 hr h3055 h3059 Khc3054
    dsimp only [Sum.elim_inl] at hr
    simp only [go_sem, ↓reduceIte, reduceCtorEq, nA, nB, nC, nD, nE, nF, nG, nH, iA, *]
    cases hr
    try dsimp only
    refine LeR.picks [some 0] rfl ?_ ?_
    · repeat (first | exact pickB_nil _ | refine pickB_some _ _ _ _ _ _ _ _ ?_ rfl ?_ | refine pickB_none _ _ _ _ _ ?_)
      all_goals simp (maxDischargeDepth := 40) only [go_sem, ↓reduceIte, reduceCtorEq, nA, nB, nC, nD, nE, nF, nG, nH, iA, cast0, cast1, lA, lB, lC, lD, lE, mapV_nil, *]
    · simp (maxDischargeDepth := 40) only [go_sem, ↓reduceIte, reduceCtorEq, nA, nB, nC, nD, nE, nF, nG, nH, iA, cast0, cast1, lA, lB, lC, lD, lE, mapV_nil, *]

def ref07_Proves (a0 : List (Int × (List (ByteArray × Int)))) (a1 : Int × (List (ByteArray × Int))) (a2 : T_api_Cert) : Option Int :=
  (ref07_Facts a0).bind fun y3036 =>
(ref07_Negate a1).bind fun y3068 =>
(ref07_Valid y3036).bind fun y3071 =>
if y3071 then
  if (y3068.2 == (1 : Int)) then
    some (1 : Int)
  else
    if (y3068.2 != (0 : Int)) then
      some y3068.2
    else
      iffO (decide ((y3036.length + 1) * 40 ≤ 140737488355328))
        ((ref07_Check (y3036 ++ [(false, y3068.1)]) a2).bind fun y3079 =>
        some y3079)
else
  some (1 : Int)
set_option maxHeartbeats 2000000 in
theorem ref07_Proves_ok {a0 : List (Int × (List (ByteArray × Int)))} {a1 : Int × (List (ByteArray × Int))} {a2 : T_api_Cert} {r : Int} (hr : ref07_Proves a0 a1 a2 = some r) : Meets Try.prog 29 [.sl false 2 (a0.map e_api_Linear), .agg [.c (.int .i64 a1.1), .sl false 2 (a1.2.map e_api_Coef)], .agg [.c (.int .i64 a2.f0), .sl false 1 (a2.f1.map e_int), .c (.int .i64 a2.f2.1), .sl false 2 (a2.f2.2.map e_api_Coef), .sl false 5 (a2.f3.map e_api_Cert)]] (.c (.int .i64 r)) := by
  unfold ref07_Proves at hr
  refine meetsV_of (X := true) Ty.mixed Try.func29 (by kernel_rfl) rfl (by kernel_rfl) (by simp) ?_; rw [Try.ntmps29, Try.results29]
  simp only [go_sem, ↓reduceIte, reduceCtorEq, nA, nB, nC, nD, nE, nF, nG, nH, iA, *]
  obtain ⟨y3036, h3066, r3067⟩ := bindS hr
  clear hr
  try dsimp only at r3067
  refine call_meetsO ((ref07_Facts_okO h3066).le ?_) (by first | (simp only [go_sem, ↓reduceIte, reduceCtorEq, nA, nB, nC, nD, nE, nF, nG, nH, iA, *] <;> rfl) | rfl) (Or.inl (by simp only [go_sem, ↓reduceIte, reduceCtorEq, nA, nB, nC, nD, nE, nF, nG, nH, iA, *])) ?_
  · simp (maxDischargeDepth := 40) only [go_sem, ↓reduceIte, reduceCtorEq, nA, nB, nC, nD, nE, nF, nG, nH, iA, cast0, cast1, lA, lB, lC, lD, lE, mapV_nil, *]
  simp only [go_sem, ↓reduceIte, reduceCtorEq, nA, nB, nC, nD, nE, nF, nG, nH, iA, *]
  obtain ⟨y3068, h3069, r3070⟩ := bindS r3067
  clear r3067
  try dsimp only at r3070
  refine call_meets ((ref07_Negate_ok h3069).le ?_) (by first | (simp only [go_sem, ↓reduceIte, reduceCtorEq, nA, nB, nC, nD, nE, nF, nG, nH, iA, *] <;> rfl) | rfl) ?_
  · simp (maxDischargeDepth := 40) only [go_sem, ↓reduceIte, reduceCtorEq, nA, nB, nC, nD, nE, nF, nG, nH, iA, cast0, cast1, lA, lB, lC, lD, lE, mapV_nil, *]
  simp only [go_sem, ↓reduceIte, reduceCtorEq, nA, nB, nC, nD, nE, nF, nG, nH, iA, *]
  obtain ⟨y3071, h3072, r3073⟩ := bindS r3070
  clear r3070
  try dsimp only at r3073
  cases h3074 : y3071 with
  | true =>
    simp only [h3074, ↓reduceIte, Bool.false_eq_true] at r3073
    cases h3075 : (y3068.2 == (1 : Int)) with
    | true =>
      simp only [h3075, ↓reduceIte, Bool.false_eq_true] at r3073
      refine call_meets ((ref07_Valid_ok h3072).le ?_) (by first | (simp only [go_sem, ↓reduceIte, reduceCtorEq, nA, nB, nC, nD, nE, nF, nG, nH, iA, *] <;> rfl) | rfl) ?_
      · simp (maxDischargeDepth := 40) only [go_sem, ↓reduceIte, reduceCtorEq, nA, nB, nC, nD, nE, nF, nG, nH, iA, cast0, cast1, lA, lB, lC, lD, lE, mapV_nil, *]
      simp only [go_sem, ↓reduceIte, reduceCtorEq, nA, nB, nC, nD, nE, nF, nG, nH, iA, *]
      cases r3073
      simp (maxDischargeDepth := 40) only [go_sem, ↓reduceIte, reduceCtorEq, nA, nB, nC, nD, nE, nF, nG, nH, iA, cast0, cast1, lA, lB, lC, lD, lE, mapV_nil, *]
    | false =>
      simp only [h3075, ↓reduceIte, Bool.false_eq_true] at r3073
      cases h3076 : (y3068.2 != (0 : Int)) with
      | true =>
        simp only [h3076, ↓reduceIte, Bool.false_eq_true] at r3073
        refine call_meets ((ref07_Valid_ok h3072).le ?_) (by first | (simp only [go_sem, ↓reduceIte, reduceCtorEq, nA, nB, nC, nD, nE, nF, nG, nH, iA, *] <;> rfl) | rfl) ?_
        · simp (maxDischargeDepth := 40) only [go_sem, ↓reduceIte, reduceCtorEq, nA, nB, nC, nD, nE, nF, nG, nH, iA, cast0, cast1, lA, lB, lC, lD, lE, mapV_nil, *]
        simp only [go_sem, ↓reduceIte, reduceCtorEq, nA, nB, nC, nD, nE, nF, nG, nH, iA, *]
        cases r3073
        simp (maxDischargeDepth := 40) only [go_sem, ↓reduceIte, reduceCtorEq, nA, nB, nC, nD, nE, nF, nG, nH, iA, cast0, cast1, lA, lB, lC, lD, lE, mapV_nil, *]
      | false =>
        simp only [h3076, ↓reduceIte, Bool.false_eq_true] at r3073
        refine call_meets ((ref07_Valid_ok h3072).le ?_) (by first | (simp only [go_sem, ↓reduceIte, reduceCtorEq, nA, nB, nC, nD, nE, nF, nG, nH, iA, *] <;> rfl) | rfl) ?_
        · simp (maxDischargeDepth := 40) only [go_sem, ↓reduceIte, reduceCtorEq, nA, nB, nC, nD, nE, nF, nG, nH, iA, cast0, cast1, lA, lB, lC, lD, lE, mapV_nil, *]
        simp only [go_sem, ↓reduceIte, reduceCtorEq, nA, nB, nC, nD, nE, nF, nG, nH, iA, *]
        obtain ⟨h3077, r3078⟩ := iffO_some r3073
        clear r3073
        simp only [Bool.and_eq_true, decide_eq_true_eq] at h3077
        refine drawS_wild ?_
        simp (config := {maxSteps := 2000000}) only [go_sem, ↓reduceIte, reduceCtorEq, nA, nB, nC, nD, nE, nF, nG, nH, iA, *]
        repeat refine ⟨by first | omega | (simp only [List.length_append, List.length_cons, List.length_nil, List.length_map, Nat.zero_add] at *; omega), ?_⟩
        obtain ⟨y3079, h3080, r3081⟩ := bindS r3078
        clear r3078
        try dsimp only at r3081
        refine callx_meets ((ref07_Check_ok h3080).le ?_) (by first | (simp (config := {maxSteps := 2000000}) only [go_sem, ↓reduceIte, reduceCtorEq, nA, nB, nC, nD, nE, nF, nG, nH, iA, *] <;> rfl) | rfl) (by simp (config := {maxSteps := 2000000}) only [go_sem, ↓reduceIte, reduceCtorEq, nA, nB, nC, nD, nE, nF, nG, nH, iA, *]) ?_
        · simp (maxDischargeDepth := 40) only [go_sem, ↓reduceIte, reduceCtorEq, nA, nB, nC, nD, nE, nF, nG, nH, iA, cast0, cast1, lA, lB, lC, lD, lE, mapV_nil, *]
        simp (config := {maxSteps := 2000000}) only [go_sem, ↓reduceIte, reduceCtorEq, nA, nB, nC, nD, nE, nF, nG, nH, iA, *]
        repeat refine ⟨by first | omega | (simp only [List.length_append, List.length_cons, List.length_nil, List.length_map, Nat.zero_add] at *; omega), ?_⟩
        first | refine ⟨by kernel_rfl, ?_⟩ | skip
        try simp only [go_sem, ↓reduceIte, reduceCtorEq, nA, nB, nC, nD, nE, nF, nG, nH, iA, *]
        cases r3081
        simp (maxDischargeDepth := 40) only [go_sem, ↓reduceIte, reduceCtorEq, nA, nB, nC, nD, nE, nF, nG, nH, iA, cast0, cast1, lA, lB, lC, lD, lE, mapV_nil, *]
  | false =>
    simp only [h3074, ↓reduceIte, Bool.false_eq_true] at r3073
    refine call_meets ((ref07_Valid_ok h3072).le ?_) (by first | (simp only [go_sem, ↓reduceIte, reduceCtorEq, nA, nB, nC, nD, nE, nF, nG, nH, iA, *] <;> rfl) | rfl) ?_
    · simp (maxDischargeDepth := 40) only [go_sem, ↓reduceIte, reduceCtorEq, nA, nB, nC, nD, nE, nF, nG, nH, iA, cast0, cast1, lA, lB, lC, lD, lE, mapV_nil, *]
    simp only [go_sem, ↓reduceIte, reduceCtorEq, nA, nB, nC, nD, nE, nF, nG, nH, iA, *]
    cases r3073
    simp (maxDischargeDepth := 40) only [go_sem, ↓reduceIte, reduceCtorEq, nA, nB, nC, nD, nE, nF, nG, nH, iA, cast0, cast1, lA, lB, lC, lD, lE, mapV_nil, *]

def ref04_Few (a0 : Int × (List (ByteArray × Int))) (a1 : Int) : Option Bool :=
  (forC (R := Bool) (a0.2.length) (() : Unit) fun k3101 s3100 =>
  (a0.2[k3101]?).bind fun x3109 =>
  if (decide ((40 : Int) < (x3109.1.size : Int))) then
    some (.rt false)
  else
    some (.nx ())).bind (Sum.elim (fun s3100 =>
  some (decide (((a0.2.length : Nat) : Int) ≤ a1))) some)
set_option maxHeartbeats 2000000 in
theorem ref04_Few_ok {a0 : Int × (List (ByteArray × Int))} {a1 : Int} {r : Bool} (hr : ref04_Few a0 a1 = some r) : Meets Try.prog 25 [.agg [.c (.int .i64 a0.1), .sl false 2 (a0.2.map e_api_Coef)], .c (.int .i64 a1)] (.c (.bool r)) := by
  unfold ref04_Few at hr
  refine meetsV_of (X := true) Ty.mixed Try.func25 (by kernel_rfl) rfl (by kernel_rfl) (by simp) ?_; rw [Try.ntmps25, Try.results25]
  simp only [go_sem, ↓reduceIte, reduceCtorEq, nA, nB, nC, nD, nE, nF, nG, nH, iA, *]
  refine loop_for hr (fun k3101 s3100 => ⟨26, [(1, .c (.int .i64 a1)), (2, .ptr 0 0), (5, .c (.int .i64 (k3101 : Int)))], [some (.var 26 [.c (.int .i64 a0.1), .sl false 2 (a0.2.map e_api_Coef)])]⟩) ?_ ?_ ?_
  · try dsimp only
    refine LeS.pick [some 0] rfl rfl ?_ ?_
    all_goals simp (maxDischargeDepth := 40) only [go_sem, ↓reduceIte, reduceCtorEq, nA, nB, nC, nD, nE, nF, nG, nH, iA, cast0, cast1, lA, lB, lC, lD, lE, mapV_nil, *]
  · intro k3101 s3100 qhc3103 h3104 h3105 h3106 h3107 hq3102 hc3103 Khc3103 hKhc3103
    try dsimp only at hq3102
    obtain ⟨x3109, h3110, r3111⟩ := bindS hq3102
    clear hq3102
    try dsimp only at r3111
    cases h3113 : (decide ((40 : Int) < (x3109.1.size : Int))) with
    | true =>
      simp only [h3113, ↓reduceIte, Bool.false_eq_true] at r3111
      have g91 := get_map e_api_Coef h3110
      simp only [go_sem, ↓reduceIte, reduceCtorEq, nA, nB, nC, nD, nE, nF, nG, nH, iA, *]
      cases r3111
      dsimp only [St.on, Sum.elim_inr] at hc3103
      cases hc3103
      simp (maxDischargeDepth := 40) only [go_sem, ↓reduceIte, reduceCtorEq, nA, nB, nC, nD, nE, nF, nG, nH, iA, cast0, cast1, lA, lB, lC, lD, lE, mapV_nil, *]
    | false =>
      simp only [h3113, ↓reduceIte, Bool.false_eq_true] at r3111
      have g92 := get_map e_api_Coef h3110
      simp only [go_sem, ↓reduceIte, reduceCtorEq, nA, nB, nC, nD, nE, nF, nG, nH, iA, *]
      cases r3111
      refine hKhc3103 _ _ rfl ?_
      try dsimp only
      refine LeS.pick [some 0] rfl rfl ?_ ?_
      all_goals simp (maxDischargeDepth := 40) only [go_sem, ↓reduceIte, reduceCtorEq, nA, nB, nC, nD, nE, nF, nG, nH, iA, cast0, cast1, lA, lB, lC, lD, lE, mapV_nil, *]
  · clear hr
    intro s3100 hr h3104 h3108 Khc3103
    dsimp only [Sum.elim_inl] at hr
    simp only [go_sem, ↓reduceIte, reduceCtorEq, nA, nB, nC, nD, nE, nF, nG, nH, iA, *]
    cases hr
    simp (maxDischargeDepth := 40) only [go_sem, ↓reduceIte, reduceCtorEq, nA, nB, nC, nD, nE, nF, nG, nH, iA, cast0, cast1, lA, lB, lC, lD, lE, mapV_nil, *]

def ref07_Few (a0 : List (Bool × (Int × (List (ByteArray × Int))))) (a1 : Int) : Option Bool :=
  (forC (R := Bool) (a0.length) (() : Unit) fun k3129 s3128 =>
  (a0[k3129]?).bind fun x3137 =>
  (ref04_Few x3137.2 (8 : Int)).bind fun y3141 =>
  if y3141 then
    some (.nx ())
  else
    some (.rt false)).bind (Sum.elim (fun s3128 =>
  some (decide (((a0.length : Nat) : Int) ≤ a1))) some)
set_option maxHeartbeats 2000000 in
theorem ref07_Few_ok {a0 : List (Bool × (Int × (List (ByteArray × Int))))} {a1 : Int} {r : Bool} (hr : ref07_Few a0 a1 = some r) : Meets Try.prog 11 [.sl false 3 (a0.map e_api_Fact), .c (.int .i64 a1)] (.c (.bool r)) := by
  unfold ref07_Few at hr
  refine meetsV_of (X := true) Ty.mixed Try.func11 (by kernel_rfl) rfl (by kernel_rfl) (by simp) ?_; rw [Try.ntmps11, Try.results11]
  simp only [go_sem, ↓reduceIte, reduceCtorEq, nA, nB, nC, nD, nE, nF, nG, nH, iA, *]
  refine loop_for hr (fun k3129 s3128 => ⟨23, [(0, .sl false 3 (a0.map e_api_Fact)), (1, .c (.int .i64 a1)), (5, .c (.int .i64 (k3129 : Int)))], []⟩) ?_ ?_ ?_
  · try dsimp only
    refine LeS.pick [] rfl rfl ?_ ?_
    all_goals simp (maxDischargeDepth := 40) only [go_sem, ↓reduceIte, reduceCtorEq, nA, nB, nC, nD, nE, nF, nG, nH, iA, cast0, cast1, lA, lB, lC, lD, lE, mapV_nil, *]
  · intro k3129 s3128 qhc3131 h3132 h3133 h3134 h3135 hq3130 hc3131 Khc3131 hKhc3131
    try dsimp only at hq3130
    obtain ⟨x3137, h3138, r3139⟩ := bindS hq3130
    clear hq3130
    try dsimp only at r3139
    have g93 := get_map e_api_Fact h3138
    simp only [go_sem, ↓reduceIte, reduceCtorEq, nA, nB, nC, nD, nE, nF, nG, nH, iA, *]
    obtain ⟨y3141, h3142, r3143⟩ := bindS r3139
    clear r3139
    try dsimp only at r3143
    cases h3144 : y3141 with
    | true =>
      simp only [h3144, ↓reduceIte, Bool.false_eq_true] at r3143
      refine call_meets ((ref04_Few_ok h3142).le ?_) (by first | (simp only [go_sem, ↓reduceIte, reduceCtorEq, nA, nB, nC, nD, nE, nF, nG, nH, iA, *] <;> rfl) | rfl) ?_
      · simp (maxDischargeDepth := 40) only [go_sem, ↓reduceIte, reduceCtorEq, nA, nB, nC, nD, nE, nF, nG, nH, iA, cast0, cast1, lA, lB, lC, lD, lE, mapV_nil, *]
      simp only [go_sem, ↓reduceIte, reduceCtorEq, nA, nB, nC, nD, nE, nF, nG, nH, iA, *]
      cases r3143
      refine hKhc3131 _ _ rfl ?_
      try dsimp only
      refine LeS.pick [] rfl rfl ?_ ?_
      all_goals simp (maxDischargeDepth := 40) only [go_sem, ↓reduceIte, reduceCtorEq, nA, nB, nC, nD, nE, nF, nG, nH, iA, cast0, cast1, lA, lB, lC, lD, lE, mapV_nil, *]
    | false =>
      simp only [h3144, ↓reduceIte, Bool.false_eq_true] at r3143
      refine call_meets ((ref04_Few_ok h3142).le ?_) (by first | (simp only [go_sem, ↓reduceIte, reduceCtorEq, nA, nB, nC, nD, nE, nF, nG, nH, iA, *] <;> rfl) | rfl) ?_
      · simp (maxDischargeDepth := 40) only [go_sem, ↓reduceIte, reduceCtorEq, nA, nB, nC, nD, nE, nF, nG, nH, iA, cast0, cast1, lA, lB, lC, lD, lE, mapV_nil, *]
      simp only [go_sem, ↓reduceIte, reduceCtorEq, nA, nB, nC, nD, nE, nF, nG, nH, iA, *]
      cases r3143
      dsimp only [St.on, Sum.elim_inr] at hc3131
      cases hc3131
      simp (maxDischargeDepth := 40) only [go_sem, ↓reduceIte, reduceCtorEq, nA, nB, nC, nD, nE, nF, nG, nH, iA, cast0, cast1, lA, lB, lC, lD, lE, mapV_nil, *]
  · clear hr
    intro s3128 hr h3132 h3136 Khc3131
    dsimp only [Sum.elim_inl] at hr
    simp only [go_sem, ↓reduceIte, reduceCtorEq, nA, nB, nC, nD, nE, nF, nG, nH, iA, *]
    cases hr
    simp (maxDischargeDepth := 40) only [go_sem, ↓reduceIte, reduceCtorEq, nA, nB, nC, nD, nE, nF, nG, nH, iA, cast0, cast1, lA, lB, lC, lD, lE, mapV_nil, *]

def ref07_Small : Nat → T_api_Cert → Int → Option Bool
  | 0, _, _ => none
  | fuel + 1, a0, a1 =>
  if (decide ((60 : Int) < ((a0.f1.length : Nat) : Int))) then
  some false
else
  (ref04_Few a0.f2 (8 : Int)).bind fun y3158 =>
  if y3158 then
    if (decide (a1 < (1 : Int))) then
      some false
    else
      if (decide (a1 < ((a0.f3.length : Nat) : Int))) then
        some false
      else
        (forC (R := Bool) (a0.f3.length) (a1 : Int) fun k3191 s3190 =>
          (a0.f3[k3191]?).bind fun x3199 =>
          (ref07_Small fuel x3199 (IntKind.i64.wrap (s3190 - (1 : Int)))).bind fun y3203 =>
          if y3203 then
            (ref07_Size 4611686018427387904 x3199).bind fun y3207 =>
            some (.nx (IntKind.i64.wrap (s3190 - y3207)))
          else
            some (.rt false)).bind (Sum.elim (fun s3190 =>
          some true) some)
  else
    some false
set_option maxHeartbeats 2000000 in
theorem ref07_Small_all (fuel : Nat) : ∀ {a0 : T_api_Cert} {a1 : Int} {r : Bool}, ref07_Small fuel a0 a1 = some r → Meets Try.prog 12 [.agg [.c (.int .i64 a0.f0), .sl false 1 (a0.f1.map e_int), .c (.int .i64 a0.f2.1), .sl false 2 (a0.f2.2.map e_api_Coef), .sl false 5 (a0.f3.map e_api_Cert)], .c (.int .i64 a1)] (.c (.bool r)) := by
  induction fuel with
  | zero =>
    · intro a0 a1 r hr
      rw [ref07_Small] at hr
      cases hr
  | succ fuel ih =>
    have ih_ref07_Small := @ih
    · intro a0 a1 r hr
      rw [ref07_Small] at hr
      refine meetsV_of (X := true) Ty.mixed Try.func12 (by kernel_rfl) rfl (by kernel_rfl) (by simp) ?_; rw [Try.ntmps12, Try.results12]
      cases h3157 : (decide ((60 : Int) < ((a0.f1.length : Nat) : Int))) with
      | true =>
        simp only [h3157, ↓reduceIte, Bool.false_eq_true] at hr
        simp only [go_sem, ↓reduceIte, reduceCtorEq, nA, nB, nC, nD, nE, nF, nG, nH, iA, *]
        cases hr
        simp (maxDischargeDepth := 40) only [go_sem, ↓reduceIte, reduceCtorEq, nA, nB, nC, nD, nE, nF, nG, nH, iA, cast0, cast1, lA, lB, lC, lD, lE, mapV_nil, *]
      | false =>
        simp only [h3157, ↓reduceIte, Bool.false_eq_true] at hr
        simp only [go_sem, ↓reduceIte, reduceCtorEq, nA, nB, nC, nD, nE, nF, nG, nH, iA, *]
        obtain ⟨y3158, h3159, r3160⟩ := bindS hr
        clear hr
        try dsimp only at r3160
        cases h3161 : y3158 with
        | true =>
          simp only [h3161, ↓reduceIte, Bool.false_eq_true] at r3160
          cases h3162 : (decide (a1 < (1 : Int))) with
          | true =>
            simp only [h3162, ↓reduceIte, Bool.false_eq_true] at r3160
            refine call_meets ((ref04_Few_ok h3159).le ?_) (by first | (simp only [go_sem, ↓reduceIte, reduceCtorEq, nA, nB, nC, nD, nE, nF, nG, nH, iA, *] <;> rfl) | rfl) ?_
            · simp (maxDischargeDepth := 40) only [go_sem, ↓reduceIte, reduceCtorEq, nA, nB, nC, nD, nE, nF, nG, nH, iA, cast0, cast1, lA, lB, lC, lD, lE, mapV_nil, *]
            simp only [go_sem, ↓reduceIte, reduceCtorEq, nA, nB, nC, nD, nE, nF, nG, nH, iA, *]
            cases r3160
            simp (maxDischargeDepth := 40) only [go_sem, ↓reduceIte, reduceCtorEq, nA, nB, nC, nD, nE, nF, nG, nH, iA, cast0, cast1, lA, lB, lC, lD, lE, mapV_nil, *]
          | false =>
            simp only [h3162, ↓reduceIte, Bool.false_eq_true] at r3160
            cases h3163 : (decide (a1 < ((a0.f3.length : Nat) : Int))) with
            | true =>
              simp only [h3163, ↓reduceIte, Bool.false_eq_true] at r3160
              refine call_meets ((ref04_Few_ok h3159).le ?_) (by first | (simp only [go_sem, ↓reduceIte, reduceCtorEq, nA, nB, nC, nD, nE, nF, nG, nH, iA, *] <;> rfl) | rfl) ?_
              · simp (maxDischargeDepth := 40) only [go_sem, ↓reduceIte, reduceCtorEq, nA, nB, nC, nD, nE, nF, nG, nH, iA, cast0, cast1, lA, lB, lC, lD, lE, mapV_nil, *]
              simp only [go_sem, ↓reduceIte, reduceCtorEq, nA, nB, nC, nD, nE, nF, nG, nH, iA, *]
              cases r3160
              simp (maxDischargeDepth := 40) only [go_sem, ↓reduceIte, reduceCtorEq, nA, nB, nC, nD, nE, nF, nG, nH, iA, cast0, cast1, lA, lB, lC, lD, lE, mapV_nil, *]
            | false =>
              simp only [h3163, ↓reduceIte, Bool.false_eq_true] at r3160
              refine call_meets ((ref04_Few_ok h3159).le ?_) (by first | (simp only [go_sem, ↓reduceIte, reduceCtorEq, nA, nB, nC, nD, nE, nF, nG, nH, iA, *] <;> rfl) | rfl) ?_
              · simp (maxDischargeDepth := 40) only [go_sem, ↓reduceIte, reduceCtorEq, nA, nB, nC, nD, nE, nF, nG, nH, iA, cast0, cast1, lA, lB, lC, lD, lE, mapV_nil, *]
              simp only [go_sem, ↓reduceIte, reduceCtorEq, nA, nB, nC, nD, nE, nF, nG, nH, iA, *]
              refine loop_for r3160 (fun k3191 s3190 => ⟨51, [(1, .c (.int .i64 s3190)), (2, .ptr 0 0), (5, .c (.int .i64 (k3191 : Int)))], [some (.var 29 [.c (.int .i64 a0.f0), .sl false 1 (a0.f1.map e_int), .c (.int .i64 a0.f2.1), .sl false 2 (a0.f2.2.map e_api_Coef), .sl false 5 (a0.f3.map e_api_Cert)])]⟩) ?_ ?_ ?_
              · try dsimp only
                refine LeS.pick [some 0] rfl rfl ?_ ?_
                all_goals simp (maxDischargeDepth := 40) only [go_sem, ↓reduceIte, reduceCtorEq, nA, nB, nC, nD, nE, nF, nG, nH, iA, cast0, cast1, lA, lB, lC, lD, lE, mapV_nil, *]
              · intro k3191 s3190 qhc3193 h3194 h3195 h3196 h3197 hq3192 hc3193 Khc3193 hKhc3193
                try dsimp only at hq3192
                obtain ⟨x3199, h3200, r3201⟩ := bindS hq3192
                clear hq3192
                try dsimp only at r3201
                have g94 := get_map e_api_Cert h3200
                simp only [go_sem, ↓reduceIte, reduceCtorEq, nA, nB, nC, nD, nE, nF, nG, nH, iA, *]
                obtain ⟨y3203, h3204, r3205⟩ := bindS r3201
                clear r3201
                try dsimp only at r3205
                cases h3206 : y3203 with
                | true =>
                  simp only [h3206, ↓reduceIte, Bool.false_eq_true] at r3205
                  refine call_meets ((ih_ref07_Small h3204).le ?_) (by first | (simp only [go_sem, ↓reduceIte, reduceCtorEq, nA, nB, nC, nD, nE, nF, nG, nH, iA, *] <;> rfl) | rfl) ?_
                  · simp (maxDischargeDepth := 40) only [go_sem, ↓reduceIte, reduceCtorEq, nA, nB, nC, nD, nE, nF, nG, nH, iA, cast0, cast1, lA, lB, lC, lD, lE, mapV_nil, *]
                  simp only [go_sem, ↓reduceIte, reduceCtorEq, nA, nB, nC, nD, nE, nF, nG, nH, iA, *]
                  obtain ⟨y3207, h3208, r3209⟩ := bindS r3205
                  clear r3205
                  try dsimp only at r3209
                  refine call_meets ((ref07_Size_ok h3208).le ?_) (by first | (simp only [go_sem, ↓reduceIte, reduceCtorEq, nA, nB, nC, nD, nE, nF, nG, nH, iA, *] <;> rfl) | rfl) ?_
                  · simp (maxDischargeDepth := 40) only [go_sem, ↓reduceIte, reduceCtorEq, nA, nB, nC, nD, nE, nF, nG, nH, iA, cast0, cast1, lA, lB, lC, lD, lE, mapV_nil, *]
                  simp only [go_sem, ↓reduceIte, reduceCtorEq, nA, nB, nC, nD, nE, nF, nG, nH, iA, *]
                  cases r3209
                  refine hKhc3193 _ _ rfl ?_
                  try dsimp only
                  refine LeS.pick [some 0] rfl rfl ?_ ?_
                  all_goals simp (maxDischargeDepth := 40) only [go_sem, ↓reduceIte, reduceCtorEq, nA, nB, nC, nD, nE, nF, nG, nH, iA, cast0, cast1, lA, lB, lC, lD, lE, mapV_nil, *]
                | false =>
                  simp only [h3206, ↓reduceIte, Bool.false_eq_true] at r3205
                  refine call_meets ((ih_ref07_Small h3204).le ?_) (by first | (simp only [go_sem, ↓reduceIte, reduceCtorEq, nA, nB, nC, nD, nE, nF, nG, nH, iA, *] <;> rfl) | rfl) ?_
                  · simp (maxDischargeDepth := 40) only [go_sem, ↓reduceIte, reduceCtorEq, nA, nB, nC, nD, nE, nF, nG, nH, iA, cast0, cast1, lA, lB, lC, lD, lE, mapV_nil, *]
                  simp only [go_sem, ↓reduceIte, reduceCtorEq, nA, nB, nC, nD, nE, nF, nG, nH, iA, *]
                  cases r3205
                  dsimp only [St.on, Sum.elim_inr] at hc3193
                  cases hc3193
                  simp (maxDischargeDepth := 40) only [go_sem, ↓reduceIte, reduceCtorEq, nA, nB, nC, nD, nE, nF, nG, nH, iA, cast0, cast1, lA, lB, lC, lD, lE, mapV_nil, *]
              · clear r3160
                intro s3190 r3160 h3194 h3198 Khc3193
                dsimp only [Sum.elim_inl] at r3160
                simp only [go_sem, ↓reduceIte, reduceCtorEq, nA, nB, nC, nD, nE, nF, nG, nH, iA, *]
                cases r3160
                simp (maxDischargeDepth := 40) only [go_sem, ↓reduceIte, reduceCtorEq, nA, nB, nC, nD, nE, nF, nG, nH, iA, cast0, cast1, lA, lB, lC, lD, lE, mapV_nil, *]
        | false =>
          simp only [h3161, ↓reduceIte, Bool.false_eq_true] at r3160
          refine call_meets ((ref04_Few_ok h3159).le ?_) (by first | (simp only [go_sem, ↓reduceIte, reduceCtorEq, nA, nB, nC, nD, nE, nF, nG, nH, iA, *] <;> rfl) | rfl) ?_
          · simp (maxDischargeDepth := 40) only [go_sem, ↓reduceIte, reduceCtorEq, nA, nB, nC, nD, nE, nF, nG, nH, iA, cast0, cast1, lA, lB, lC, lD, lE, mapV_nil, *]
          simp only [go_sem, ↓reduceIte, reduceCtorEq, nA, nB, nC, nD, nE, nF, nG, nH, iA, *]
          cases r3160
          simp (maxDischargeDepth := 40) only [go_sem, ↓reduceIte, reduceCtorEq, nA, nB, nC, nD, nE, nF, nG, nH, iA, cast0, cast1, lA, lB, lC, lD, lE, mapV_nil, *]
theorem ref07_Small_ok {fuel : Nat} : ∀ {a0 : T_api_Cert} {a1 : Int} {r : Bool}, ref07_Small fuel a0 a1 = some r → Meets Try.prog 12 [.agg [.c (.int .i64 a0.f0), .sl false 1 (a0.f1.map e_int), .c (.int .i64 a0.f2.1), .sl false 2 (a0.f2.2.map e_api_Coef), .sl false 5 (a0.f3.map e_api_Cert)], .c (.int .i64 a1)] (.c (.bool r)) := ref07_Small_all fuel

end Go.Proofs.Ytgjamefpphhobaa.D7R
