/- Functions of the program as functions of values. -/
import Derived.Test.YtgjamefpphhobaaD7P
import Derived.Test.YtgjamefpphhobaaGs
namespace Go.Proofs.Ytgjamefpphhobaa.D7R
open Go.Proofs.Ytgjamefpphhobaa.KS Go.Proofs.Ytgjamefpphhobaa.D7P
open Go Go.Proofs.Ytgjamefpphhobaa.Eng Go.Proofs.Ytgjamefpphhobaa Go.RowKit
set_option linter.unusedSimpArgs false
set_option linter.unusedVariables false
set_option linter.unusedSectionVars false
set_option maxRecDepth 100000
open Nat renaming reduceAdd → nA, reduceMul → nB, reduceLT → nC, reduceLeDiff → nD, reduceEqDiff → nE, reduceSub → nF, reduceMod → nG, reduceDiv → nH
open Int renaming reduceToNat → iA
open List renaming map_append → lA, map_set → lB, map_replicate → lC, map_take → lD, map_drop → lE
attribute [local go_sem] e_api_Cert_is
attribute [local go_sem] List.length_map take_map_self eqB_is lessB_is List.length_append List.length_replicate List.length_set List.take_of_length_le


def ref04_small (a0 : Int) : Option Bool :=
  if (decide ((-1000000 : Int) ≤ a0)) then
  some (decide (a0 ≤ (1000000 : Int)))
else
  some false
set_option maxHeartbeats 2000000 in
theorem ref04_small_ok {a0 : Int} {r : Bool} (hr : ref04_small a0 = some r) : Meets Try.prog 72 [.c (.int .i64 a0)] (.c (.bool r)) := by
  unfold ref04_small at hr
  refine meetsV_of (X := true) Ty.mixed Try.func72 (by kernel_rfl) rfl (by kernel_rfl) (by simp) ?_; rw [Try.ntmps72, Try.results72]
  cases h1503 : (decide ((-1000000 : Int) ≤ a0)) with
  | true =>
    simp only [h1503, ↓reduceIte, Bool.false_eq_true] at hr
    simp only [go_sem, ↓reduceIte, reduceCtorEq, nA, nB, nC, nD, nE, nF, nG, nH, iA, *]
    cases hr
    simp (maxDischargeDepth := 40) only [go_sem, ↓reduceIte, reduceCtorEq, nA, nB, nC, nD, nE, nF, nG, nH, iA, cast0, cast1, lA, lB, lC, lD, lE, mapV_nil, *]
  | false =>
    simp only [h1503, ↓reduceIte, Bool.false_eq_true] at hr
    simp only [go_sem, ↓reduceIte, reduceCtorEq, nA, nB, nC, nD, nE, nF, nG, nH, iA, *]
    cases hr
    simp (maxDischargeDepth := 40) only [go_sem, ↓reduceIte, reduceCtorEq, nA, nB, nC, nD, nE, nF, nG, nH, iA, cast0, cast1, lA, lB, lC, lD, lE, mapV_nil, *]

def ref04_digit (a0 : Int) : Option Bool :=
  if (decide ((48 : Int) ≤ a0)) then
  some (decide (a0 ≤ (57 : Int)))
else
  some false
set_option maxHeartbeats 2000000 in
theorem ref04_digit_ok {a0 : Int} {r : Bool} (hr : ref04_digit a0 = some r) : Meets Try.prog 89 [.c (.int .u8 a0)] (.c (.bool r)) := by
  unfold ref04_digit at hr
  refine meetsV_of (X := true) Ty.mixed Try.func89 (by kernel_rfl) rfl (by kernel_rfl) (by simp) ?_; rw [Try.ntmps89, Try.results89]
  cases h1529 : (decide ((48 : Int) ≤ a0)) with
  | true =>
    simp only [h1529, ↓reduceIte, Bool.false_eq_true] at hr
    simp only [go_sem, ↓reduceIte, reduceCtorEq, nA, nB, nC, nD, nE, nF, nG, nH, iA, *]
    cases hr
    simp (maxDischargeDepth := 40) only [go_sem, ↓reduceIte, reduceCtorEq, nA, nB, nC, nD, nE, nF, nG, nH, iA, cast0, cast1, lA, lB, lC, lD, lE, mapV_nil, *]
  | false =>
    simp only [h1529, ↓reduceIte, Bool.false_eq_true] at hr
    simp only [go_sem, ↓reduceIte, reduceCtorEq, nA, nB, nC, nD, nE, nF, nG, nH, iA, *]
    cases hr
    simp (maxDischargeDepth := 40) only [go_sem, ↓reduceIte, reduceCtorEq, nA, nB, nC, nD, nE, nF, nG, nH, iA, cast0, cast1, lA, lB, lC, lD, lE, mapV_nil, *]

def ref04_letter (a0 : Int) : Option Bool :=
  if (decide ((97 : Int) ≤ a0)) then
  some (decide (a0 ≤ (122 : Int)))
else
  some false
set_option maxHeartbeats 2000000 in
theorem ref04_letter_ok {a0 : Int} {r : Bool} (hr : ref04_letter a0 = some r) : Meets Try.prog 90 [.c (.int .u8 a0)] (.c (.bool r)) := by
  unfold ref04_letter at hr
  refine meetsV_of (X := true) Ty.mixed Try.func90 (by kernel_rfl) rfl (by kernel_rfl) (by simp) ?_; rw [Try.ntmps90, Try.results90]
  cases h1563 : (decide ((97 : Int) ≤ a0)) with
  | true =>
    simp only [h1563, ↓reduceIte, Bool.false_eq_true] at hr
    simp only [go_sem, ↓reduceIte, reduceCtorEq, nA, nB, nC, nD, nE, nF, nG, nH, iA, *]
    cases hr
    simp (maxDischargeDepth := 40) only [go_sem, ↓reduceIte, reduceCtorEq, nA, nB, nC, nD, nE, nF, nG, nH, iA, cast0, cast1, lA, lB, lC, lD, lE, mapV_nil, *]
  | false =>
    simp only [h1563, ↓reduceIte, Bool.false_eq_true] at hr
    simp only [go_sem, ↓reduceIte, reduceCtorEq, nA, nB, nC, nD, nE, nF, nG, nH, iA, *]
    cases hr
    simp (maxDischargeDepth := 40) only [go_sem, ↓reduceIte, reduceCtorEq, nA, nB, nC, nD, nE, nF, nG, nH, iA, cast0, cast1, lA, lB, lC, lD, lE, mapV_nil, *]

def ref04_Name (a0 : ByteArray) : Option Bool :=
  if ((a0.size : Int) == (0 : Int)) then
  some false
else
  if (decide ((30 : Int) < (a0.size : Int))) then
    some false
  else
    (a0[0]?).bind fun x1516 =>
    if ((x1516.toNat : Int) == (95 : Int)) then
      if (decide ((a0.size : Int) < (2 : Int))) then
        some false
      else
        if (decide ((10 : Int) < (a0.size : Int))) then
          some false
        else
          (a0[1]?).bind fun x1523 =>
          if ((x1523.toNat : Int) == (48 : Int)) then
            some false
          else
            (whlC (R := Bool) ((1 : Int) : Int) fun s1544 =>
              if (decide (s1544 < (a0.size : Int))) then
                (idxB a0 s1544).bind fun x1554 =>
                (ref04_digit (x1554.toNat : Int)).bind fun y1558 =>
                if y1558 then
                  some (.nx (IntKind.i64.wrap (s1544 + (1 : Int))))
                else
                  some (.rt false)
              else
                some (.br s1544)).bind (Sum.elim (fun s1544 =>
              some true) some)
    else
      (forC (R := Bool) (a0.size) (() : Unit) fun k1589 s1588 =>
        (a0[k1589]?).bind fun x1597 =>
        (ref04_letter (x1597.toNat : Int)).bind fun y1601 =>
        if y1601 then
          some (.nx ())
        else
          if ((k1589 : Int) == (0 : Int)) then
            some (.rt false)
          else
            (ref04_digit (x1597.toNat : Int)).bind fun y1606 =>
            if y1606 then
              some (.nx ())
            else
              some (.rt false)).bind (Sum.elim (fun s1588 =>
        some true) some)
set_option maxHeartbeats 2000000 in
theorem ref04_Name_ok {a0 : ByteArray} {r : Bool} (hr : ref04_Name a0 = some r) : Meets Try.prog 73 [.c (.string a0)] (.c (.bool r)) := by
  unfold ref04_Name at hr
  refine meetsV_of (X := true) Ty.mixed Try.func73 (by kernel_rfl) rfl (by kernel_rfl) (by simp) ?_; rw [Try.ntmps73, Try.results73]
  cases h1514 : ((a0.size : Int) == (0 : Int)) with
  | true =>
    simp only [h1514, ↓reduceIte, Bool.false_eq_true] at hr
    simp only [go_sem, ↓reduceIte, reduceCtorEq, nA, nB, nC, nD, nE, nF, nG, nH, iA, *]
    cases hr
    simp (maxDischargeDepth := 40) only [go_sem, ↓reduceIte, reduceCtorEq, nA, nB, nC, nD, nE, nF, nG, nH, iA, cast0, cast1, lA, lB, lC, lD, lE, mapV_nil, *]
  | false =>
    simp only [h1514, ↓reduceIte, Bool.false_eq_true] at hr
    cases h1515 : (decide ((30 : Int) < (a0.size : Int))) with
    | true =>
      simp only [h1515, ↓reduceIte, Bool.false_eq_true] at hr
      simp only [go_sem, ↓reduceIte, reduceCtorEq, nA, nB, nC, nD, nE, nF, nG, nH, iA, *]
      cases hr
      simp (maxDischargeDepth := 40) only [go_sem, ↓reduceIte, reduceCtorEq, nA, nB, nC, nD, nE, nF, nG, nH, iA, cast0, cast1, lA, lB, lC, lD, lE, mapV_nil, *]
    | false =>
      simp only [h1515, ↓reduceIte, Bool.false_eq_true] at hr
      obtain ⟨x1516, h1517, r1518⟩ := bindS hr
      clear hr
      try dsimp only at r1518
      cases h1520 : ((x1516.toNat : Int) == (95 : Int)) with
      | true =>
        simp only [h1520, ↓reduceIte, Bool.false_eq_true] at r1518
        cases h1521 : (decide ((a0.size : Int) < (2 : Int))) with
        | true =>
          simp only [h1521, ↓reduceIte, Bool.false_eq_true] at r1518
          simp only [go_sem, ↓reduceIte, reduceCtorEq, nA, nB, nC, nD, nE, nF, nG, nH, iA, *]
          cases r1518
          simp (maxDischargeDepth := 40) only [go_sem, ↓reduceIte, reduceCtorEq, nA, nB, nC, nD, nE, nF, nG, nH, iA, cast0, cast1, lA, lB, lC, lD, lE, mapV_nil, *]
        | false =>
          simp only [h1521, ↓reduceIte, Bool.false_eq_true] at r1518
          cases h1522 : (decide ((10 : Int) < (a0.size : Int))) with
          | true =>
            simp only [h1522, ↓reduceIte, Bool.false_eq_true] at r1518
            simp only [go_sem, ↓reduceIte, reduceCtorEq, nA, nB, nC, nD, nE, nF, nG, nH, iA, *]
            cases r1518
            simp (maxDischargeDepth := 40) only [go_sem, ↓reduceIte, reduceCtorEq, nA, nB, nC, nD, nE, nF, nG, nH, iA, cast0, cast1, lA, lB, lC, lD, lE, mapV_nil, *]
          | false =>
            simp only [h1522, ↓reduceIte, Bool.false_eq_true] at r1518
            obtain ⟨x1523, h1524, r1525⟩ := bindS r1518
            clear r1518
            try dsimp only at r1525
            cases h1527 : ((x1523.toNat : Int) == (48 : Int)) with
            | true =>
              simp only [h1527, ↓reduceIte, Bool.false_eq_true] at r1525
              have g1 := (by decide : (0 : Int) ≤ 1)
              simp only [go_sem, ↓reduceIte, reduceCtorEq, nA, nB, nC, nD, nE, nF, nG, nH, iA, *]
              cases r1525
              simp (maxDischargeDepth := 40) only [go_sem, ↓reduceIte, reduceCtorEq, nA, nB, nC, nD, nE, nF, nG, nH, iA, cast0, cast1, lA, lB, lC, lD, lE, mapV_nil, *]
            | false =>
              simp only [h1527, ↓reduceIte, Bool.false_eq_true] at r1525
              have g2 := (by decide : (0 : Int) ≤ 1)
              simp only [go_sem, ↓reduceIte, reduceCtorEq, nA, nB, nC, nD, nE, nF, nG, nH, iA, *]
              refine loop_whl r1525 (fun s1544 => ⟨62, [(0, .c (.string a0)), (3, .c (.int .i64 s1544))], []⟩) ?_ ?_
              · try dsimp only
                refine LeS.pick [] rfl rfl ?_ ?_
                all_goals simp (maxDischargeDepth := 40) only [go_sem, ↓reduceIte, reduceCtorEq, nA, nB, nC, nD, nE, nF, nG, nH, iA, cast0, cast1, lA, lB, lC, lD, lE, mapV_nil, *]
              · intro s1544 qhc1547 hq1546 hc1547 Khc1547 hKhc1547
                try dsimp only at hq1546
                cases h1553 : (decide (s1544 < (a0.size : Int))) with
                | true =>
                  simp only [h1553, ↓reduceIte, Bool.false_eq_true] at hq1546
                  obtain ⟨x1554, h1555, r1556⟩ := bindS hq1546
                  clear hq1546
                  try dsimp only at r1556
                  obtain ⟨h1557, h1555⟩ := idxB_some h1555
                  simp only [go_sem, ↓reduceIte, reduceCtorEq, nA, nB, nC, nD, nE, nF, nG, nH, iA, *]
                  obtain ⟨y1558, h1559, r1560⟩ := bindS r1556
                  clear r1556
                  try dsimp only at r1560
                  cases h1561 : y1558 with
                  | true =>
                    simp only [h1561, ↓reduceIte, Bool.false_eq_true] at r1560
                    refine call_meets ((ref04_digit_ok h1559).le ?_) (by first | (simp only [go_sem, ↓reduceIte, reduceCtorEq, nA, nB, nC, nD, nE, nF, nG, nH, iA, *] <;> rfl) | rfl) ?_
                    · simp (maxDischargeDepth := 40) only [go_sem, ↓reduceIte, reduceCtorEq, nA, nB, nC, nD, nE, nF, nG, nH, iA, cast0, cast1, lA, lB, lC, lD, lE, mapV_nil, *]
                    simp only [go_sem, ↓reduceIte, reduceCtorEq, nA, nB, nC, nD, nE, nF, nG, nH, iA, *]
                    cases r1560
                    refine hKhc1547 _ _ rfl ?_
                    try dsimp only
                    refine LeS.pick [] rfl rfl ?_ ?_
                    all_goals simp (maxDischargeDepth := 40) only [go_sem, ↓reduceIte, reduceCtorEq, nA, nB, nC, nD, nE, nF, nG, nH, iA, cast0, cast1, lA, lB, lC, lD, lE, mapV_nil, *]
                  | false =>
                    simp only [h1561, ↓reduceIte, Bool.false_eq_true] at r1560
                    refine call_meets ((ref04_digit_ok h1559).le ?_) (by first | (simp only [go_sem, ↓reduceIte, reduceCtorEq, nA, nB, nC, nD, nE, nF, nG, nH, iA, *] <;> rfl) | rfl) ?_
                    · simp (maxDischargeDepth := 40) only [go_sem, ↓reduceIte, reduceCtorEq, nA, nB, nC, nD, nE, nF, nG, nH, iA, cast0, cast1, lA, lB, lC, lD, lE, mapV_nil, *]
                    simp only [go_sem, ↓reduceIte, reduceCtorEq, nA, nB, nC, nD, nE, nF, nG, nH, iA, *]
                    cases r1560
                    dsimp only [St.on, Sum.elim_inr] at hc1547
                    cases hc1547
                    simp (maxDischargeDepth := 40) only [go_sem, ↓reduceIte, reduceCtorEq, nA, nB, nC, nD, nE, nF, nG, nH, iA, cast0, cast1, lA, lB, lC, lD, lE, mapV_nil, *]
                | false =>
                  simp only [h1553, ↓reduceIte, Bool.false_eq_true] at hq1546
                  cases hq1546
                  dsimp only [St.on, Sum.elim_inl] at hc1547
                  simp only [go_sem, ↓reduceIte, reduceCtorEq, nA, nB, nC, nD, nE, nF, nG, nH, iA, *]
                  cases hc1547
                  simp (maxDischargeDepth := 40) only [go_sem, ↓reduceIte, reduceCtorEq, nA, nB, nC, nD, nE, nF, nG, nH, iA, cast0, cast1, lA, lB, lC, lD, lE, mapV_nil, *]
      | false =>
        simp only [h1520, ↓reduceIte, Bool.false_eq_true] at r1518
        simp only [go_sem, ↓reduceIte, reduceCtorEq, nA, nB, nC, nD, nE, nF, nG, nH, iA, *]
        refine loop_for r1518 (fun k1589 s1588 => ⟨62, [(0, .c (.string a0)), (4, .c (.int .i64 (k1589 : Int)))], []⟩) ?_ ?_ ?_
        · try dsimp only
          refine LeS.pick [] rfl rfl ?_ ?_
          all_goals simp (maxDischargeDepth := 40) only [go_sem, ↓reduceIte, reduceCtorEq, nA, nB, nC, nD, nE, nF, nG, nH, iA, cast0, cast1, lA, lB, lC, lD, lE, mapV_nil, *]
        · intro k1589 s1588 qhc1591 h1592 h1593 h1594 h1595 hq1590 hc1591 Khc1591 hKhc1591
          try dsimp only at hq1590
          obtain ⟨x1597, h1598, r1599⟩ := bindS hq1590
          clear hq1590
          try dsimp only at r1599
          simp only [go_sem, ↓reduceIte, reduceCtorEq, nA, nB, nC, nD, nE, nF, nG, nH, iA, *]
          obtain ⟨y1601, h1602, r1603⟩ := bindS r1599
          clear r1599
          try dsimp only at r1603
          cases h1604 : y1601 with
          | true =>
            simp only [h1604, ↓reduceIte, Bool.false_eq_true] at r1603
            refine call_meets ((ref04_letter_ok h1602).le ?_) (by first | (simp only [go_sem, ↓reduceIte, reduceCtorEq, nA, nB, nC, nD, nE, nF, nG, nH, iA, *] <;> rfl) | rfl) ?_
            · simp (maxDischargeDepth := 40) only [go_sem, ↓reduceIte, reduceCtorEq, nA, nB, nC, nD, nE, nF, nG, nH, iA, cast0, cast1, lA, lB, lC, lD, lE, mapV_nil, *]
            simp only [go_sem, ↓reduceIte, reduceCtorEq, nA, nB, nC, nD, nE, nF, nG, nH, iA, *]
            cases r1603
            refine hKhc1591 _ _ rfl ?_
            try dsimp only
            refine LeS.pick [] rfl rfl ?_ ?_
            all_goals simp (maxDischargeDepth := 40) only [go_sem, ↓reduceIte, reduceCtorEq, nA, nB, nC, nD, nE, nF, nG, nH, iA, cast0, cast1, lA, lB, lC, lD, lE, mapV_nil, *]
          | false =>
            simp only [h1604, ↓reduceIte, Bool.false_eq_true] at r1603
            cases h1605 : ((k1589 : Int) == (0 : Int)) with
            | true =>
              simp only [h1605, ↓reduceIte, Bool.false_eq_true] at r1603
              refine call_meets ((ref04_letter_ok h1602).le ?_) (by first | (simp only [go_sem, ↓reduceIte, reduceCtorEq, nA, nB, nC, nD, nE, nF, nG, nH, iA, *] <;> rfl) | rfl) ?_
              · simp (maxDischargeDepth := 40) only [go_sem, ↓reduceIte, reduceCtorEq, nA, nB, nC, nD, nE, nF, nG, nH, iA, cast0, cast1, lA, lB, lC, lD, lE, mapV_nil, *]
              simp only [go_sem, ↓reduceIte, reduceCtorEq, nA, nB, nC, nD, nE, nF, nG, nH, iA, *]
              cases r1603
              dsimp only [St.on, Sum.elim_inr] at hc1591
              cases hc1591
              simp (maxDischargeDepth := 40) only [go_sem, ↓reduceIte, reduceCtorEq, nA, nB, nC, nD, nE, nF, nG, nH, iA, cast0, cast1, lA, lB, lC, lD, lE, mapV_nil, *]
            | false =>
              simp only [h1605, ↓reduceIte, Bool.false_eq_true] at r1603
              refine call_meets ((ref04_letter_ok h1602).le ?_) (by first | (simp only [go_sem, ↓reduceIte, reduceCtorEq, nA, nB, nC, nD, nE, nF, nG, nH, iA, *] <;> rfl) | rfl) ?_
              · simp (maxDischargeDepth := 40) only [go_sem, ↓reduceIte, reduceCtorEq, nA, nB, nC, nD, nE, nF, nG, nH, iA, cast0, cast1, lA, lB, lC, lD, lE, mapV_nil, *]
              simp only [go_sem, ↓reduceIte, reduceCtorEq, nA, nB, nC, nD, nE, nF, nG, nH, iA, *]
              obtain ⟨y1606, h1607, r1608⟩ := bindS r1603
              clear r1603
              try dsimp only at r1608
              cases h1609 : y1606 with
              | true =>
                simp only [h1609, ↓reduceIte, Bool.false_eq_true] at r1608
                refine call_meets ((ref04_digit_ok h1607).le ?_) (by first | (simp only [go_sem, ↓reduceIte, reduceCtorEq, nA, nB, nC, nD, nE, nF, nG, nH, iA, *] <;> rfl) | rfl) ?_
                · simp (maxDischargeDepth := 40) only [go_sem, ↓reduceIte, reduceCtorEq, nA, nB, nC, nD, nE, nF, nG, nH, iA, cast0, cast1, lA, lB, lC, lD, lE, mapV_nil, *]
                simp only [go_sem, ↓reduceIte, reduceCtorEq, nA, nB, nC, nD, nE, nF, nG, nH, iA, *]
                cases r1608
                refine hKhc1591 _ _ rfl ?_
                try dsimp only
                refine LeS.pick [] rfl rfl ?_ ?_
                all_goals simp (maxDischargeDepth := 40) only [go_sem, ↓reduceIte, reduceCtorEq, nA, nB, nC, nD, nE, nF, nG, nH, iA, cast0, cast1, lA, lB, lC, lD, lE, mapV_nil, *]
              | false =>
                simp only [h1609, ↓reduceIte, Bool.false_eq_true] at r1608
                refine call_meets ((ref04_digit_ok h1607).le ?_) (by first | (simp only [go_sem, ↓reduceIte, reduceCtorEq, nA, nB, nC, nD, nE, nF, nG, nH, iA, *] <;> rfl) | rfl) ?_
                · simp (maxDischargeDepth := 40) only [go_sem, ↓reduceIte, reduceCtorEq, nA, nB, nC, nD, nE, nF, nG, nH, iA, cast0, cast1, lA, lB, lC, lD, lE, mapV_nil, *]
                simp only [go_sem, ↓reduceIte, reduceCtorEq, nA, nB, nC, nD, nE, nF, nG, nH, iA, *]
                cases r1608
                dsimp only [St.on, Sum.elim_inr] at hc1591
                cases hc1591
                simp (maxDischargeDepth := 40) only [go_sem, ↓reduceIte, reduceCtorEq, nA, nB, nC, nD, nE, nF, nG, nH, iA, cast0, cast1, lA, lB, lC, lD, lE, mapV_nil, *]
        · clear r1518
          intro s1588 r1518 h1592 h1596 Khc1591
          dsimp only [Sum.elim_inl] at r1518
          simp only [go_sem, ↓reduceIte, reduceCtorEq, nA, nB, nC, nD, nE, nF, nG, nH, iA, *]
          cases r1518
          simp (maxDischargeDepth := 40) only [go_sem, ↓reduceIte, reduceCtorEq, nA, nB, nC, nD, nE, nF, nG, nH, iA, cast0, cast1, lA, lB, lC, lD, lE, mapV_nil, *]

def ref04_Valid (a0 : Int × (List (ByteArray × Int))) : Option Bool :=
  (ref04_small a0.1).bind fun y1504 =>
if y1504 then
  if (decide ((12 : Int) < ((a0.2.length : Nat) : Int))) then
    some false
  else
    (forC (R := Bool) (a0.2.length) (() : Unit) fun k1647 s1646 =>
      (a0.2[k1647]?).bind fun x1655 =>
      (ref04_Name x1655.1).bind fun y1659 =>
      if y1659 then
        if (x1655.2 == (0 : Int)) then
          some (.rt false)
        else
          (ref04_small x1655.2).bind fun y1664 =>
          if y1664 then
            if (decide ((0 : Int) < (k1647 : Int))) then
              (idxO a0.2 (IntKind.i64.wrap ((k1647 : Int) - (1 : Int)))).bind fun x1669 =>
              if (lessB x1669.1 x1655.1) then
                some (.nx ())
              else
                some (.rt false)
            else
              some (.nx ())
          else
            some (.rt false)
      else
        some (.rt false)).bind (Sum.elim (fun s1646 =>
      some true) some)
else
  some false
set_option maxHeartbeats 2000000 in
theorem ref04_Valid_ok {a0 : Int × (List (ByteArray × Int))} {r : Bool} (hr : ref04_Valid a0 = some r) : Meets Try.prog 47 [.agg [.c (.int .i64 a0.1), .sl false 2 (a0.2.map e_api_Coef)]] (.c (.bool r)) := by
  unfold ref04_Valid at hr
  refine meetsV_of (X := true) Ty.mixed Try.func47 (by kernel_rfl) rfl (by kernel_rfl) (by simp) ?_; rw [Try.ntmps47, Try.results47]
  simp only [go_sem, ↓reduceIte, reduceCtorEq, nA, nB, nC, nD, nE, nF, nG, nH, iA, *]
  obtain ⟨y1504, h1505, r1506⟩ := bindS hr
  clear hr
  try dsimp only at r1506
  cases h1507 : y1504 with
  | true =>
    simp only [h1507, ↓reduceIte, Bool.false_eq_true] at r1506
    cases h1508 : (decide ((12 : Int) < ((a0.2.length : Nat) : Int))) with
    | true =>
      simp only [h1508, ↓reduceIte, Bool.false_eq_true] at r1506
      refine call_meets ((ref04_small_ok h1505).le ?_) (by first | (simp only [go_sem, ↓reduceIte, reduceCtorEq, nA, nB, nC, nD, nE, nF, nG, nH, iA, *] <;> rfl) | rfl) ?_
      · simp (maxDischargeDepth := 40) only [go_sem, ↓reduceIte, reduceCtorEq, nA, nB, nC, nD, nE, nF, nG, nH, iA, cast0, cast1, lA, lB, lC, lD, lE, mapV_nil, *]
      simp only [go_sem, ↓reduceIte, reduceCtorEq, nA, nB, nC, nD, nE, nF, nG, nH, iA, *]
      cases r1506
      simp (maxDischargeDepth := 40) only [go_sem, ↓reduceIte, reduceCtorEq, nA, nB, nC, nD, nE, nF, nG, nH, iA, cast0, cast1, lA, lB, lC, lD, lE, mapV_nil, *]
    | false =>
      simp only [h1508, ↓reduceIte, Bool.false_eq_true] at r1506
      refine call_meets ((ref04_small_ok h1505).le ?_) (by first | (simp only [go_sem, ↓reduceIte, reduceCtorEq, nA, nB, nC, nD, nE, nF, nG, nH, iA, *] <;> rfl) | rfl) ?_
      · simp (maxDischargeDepth := 40) only [go_sem, ↓reduceIte, reduceCtorEq, nA, nB, nC, nD, nE, nF, nG, nH, iA, cast0, cast1, lA, lB, lC, lD, lE, mapV_nil, *]
      simp only [go_sem, ↓reduceIte, reduceCtorEq, nA, nB, nC, nD, nE, nF, nG, nH, iA, *]
      refine loop_for r1506 (fun k1647 s1646 => ⟨58, [(1, .ptr 0 0), (3, .c (.int .i64 (k1647 : Int)))], [some (.var 26 [.c (.int .i64 a0.1), .sl false 2 (a0.2.map e_api_Coef)])]⟩) ?_ ?_ ?_
      · try dsimp only
        refine LeS.pick [some 0] rfl rfl ?_ ?_
        all_goals simp (maxDischargeDepth := 40) only [go_sem, ↓reduceIte, reduceCtorEq, nA, nB, nC, nD, nE, nF, nG, nH, iA, cast0, cast1, lA, lB, lC, lD, lE, mapV_nil, *]
      · intro k1647 s1646 qhc1649 h1650 h1651 h1652 h1653 hq1648 hc1649 Khc1649 hKhc1649
        try dsimp only at hq1648
        obtain ⟨x1655, h1656, r1657⟩ := bindS hq1648
        clear hq1648
        try dsimp only at r1657
        have g3 := get_map e_api_Coef h1656
        simp only [go_sem, ↓reduceIte, reduceCtorEq, nA, nB, nC, nD, nE, nF, nG, nH, iA, *]
        refine drawS_tail (by kernel_rfl) ?_
        simp only [go_sem, ↓reduceIte, reduceCtorEq, nA, nB, nC, nD, nE, nF, nG, nH, iA, *]
        obtain ⟨y1659, h1660, r1661⟩ := bindS r1657
        clear r1657
        try dsimp only at r1661
        cases h1662 : y1659 with
        | true =>
          simp only [h1662, ↓reduceIte, Bool.false_eq_true] at r1661
          cases h1663 : (x1655.2 == (0 : Int)) with
          | true =>
            simp only [h1663, ↓reduceIte, Bool.false_eq_true] at r1661
            refine calld_meets ((ref04_Name_ok h1660).le ?_) (by first | (simp only [go_sem, ↓reduceIte, reduceCtorEq, nA, nB, nC, nD, nE, nF, nG, nH, iA, *] <;> rfl) | rfl) (by simp only [go_sem, ↓reduceIte, reduceCtorEq, nA, nB, nC, nD, nE, nF, nG, nH, iA, *]) ?_
            · simp (maxDischargeDepth := 40) only [go_sem, ↓reduceIte, reduceCtorEq, nA, nB, nC, nD, nE, nF, nG, nH, iA, cast0, cast1, lA, lB, lC, lD, lE, mapV_nil, *]
            simp only [go_sem, ↓reduceIte, reduceCtorEq, nA, nB, nC, nD, nE, nF, nG, nH, iA, *]
            cases r1661
            dsimp only [St.on, Sum.elim_inr] at hc1649
            cases hc1649
            simp (maxDischargeDepth := 40) only [go_sem, ↓reduceIte, reduceCtorEq, nA, nB, nC, nD, nE, nF, nG, nH, iA, cast0, cast1, lA, lB, lC, lD, lE, mapV_nil, *]
          | false =>
            simp only [h1663, ↓reduceIte, Bool.false_eq_true] at r1661
            refine calld_meets ((ref04_Name_ok h1660).le ?_) (by first | (simp only [go_sem, ↓reduceIte, reduceCtorEq, nA, nB, nC, nD, nE, nF, nG, nH, iA, *] <;> rfl) | rfl) (by simp only [go_sem, ↓reduceIte, reduceCtorEq, nA, nB, nC, nD, nE, nF, nG, nH, iA, *]) ?_
            · simp (maxDischargeDepth := 40) only [go_sem, ↓reduceIte, reduceCtorEq, nA, nB, nC, nD, nE, nF, nG, nH, iA, cast0, cast1, lA, lB, lC, lD, lE, mapV_nil, *]
            simp only [go_sem, ↓reduceIte, reduceCtorEq, nA, nB, nC, nD, nE, nF, nG, nH, iA, *]
            obtain ⟨y1664, h1665, r1666⟩ := bindS r1661
            clear r1661
            try dsimp only at r1666
            cases h1667 : y1664 with
            | true =>
              simp only [h1667, ↓reduceIte, Bool.false_eq_true] at r1666
              cases h1668 : (decide ((0 : Int) < (k1647 : Int))) with
              | true =>
                simp only [h1668, ↓reduceIte, Bool.false_eq_true] at r1666
                obtain ⟨x1669, h1670, r1671⟩ := bindS r1666
                clear r1666
                try dsimp only at r1671
                obtain ⟨h1672, _, h1670⟩ := idxO_some h1670
                cases h1673 : (lessB x1669.1 x1655.1) with
                | true =>
                  simp only [h1673, ↓reduceIte, Bool.false_eq_true] at r1671
                  have g4 := get_map e_api_Coef h1670
                  refine calld_meets ((ref04_small_ok h1665).le ?_) (by first | (simp only [go_sem, ↓reduceIte, reduceCtorEq, nA, nB, nC, nD, nE, nF, nG, nH, iA, *] <;> rfl) | rfl) (by simp only [go_sem, ↓reduceIte, reduceCtorEq, nA, nB, nC, nD, nE, nF, nG, nH, iA, *]) ?_
                  · simp (maxDischargeDepth := 40) only [go_sem, ↓reduceIte, reduceCtorEq, nA, nB, nC, nD, nE, nF, nG, nH, iA, cast0, cast1, lA, lB, lC, lD, lE, mapV_nil, *]
                  simp only [go_sem, ↓reduceIte, reduceCtorEq, nA, nB, nC, nD, nE, nF, nG, nH, iA, *]
                  cases r1671
                  refine hKhc1649 _ _ rfl ?_
                  try dsimp only
                  refine LeS.pick [some 0] rfl rfl ?_ ?_
                  all_goals simp (maxDischargeDepth := 40) only [go_sem, ↓reduceIte, reduceCtorEq, nA, nB, nC, nD, nE, nF, nG, nH, iA, cast0, cast1, lA, lB, lC, lD, lE, mapV_nil, *]
                | false =>
                  simp only [h1673, ↓reduceIte, Bool.false_eq_true] at r1671
                  have g5 := get_map e_api_Coef h1670
                  refine calld_meets ((ref04_small_ok h1665).le ?_) (by first | (simp only [go_sem, ↓reduceIte, reduceCtorEq, nA, nB, nC, nD, nE, nF, nG, nH, iA, *] <;> rfl) | rfl) (by simp only [go_sem, ↓reduceIte, reduceCtorEq, nA, nB, nC, nD, nE, nF, nG, nH, iA, *]) ?_
                  · simp (maxDischargeDepth := 40) only [go_sem, ↓reduceIte, reduceCtorEq, nA, nB, nC, nD, nE, nF, nG, nH, iA, cast0, cast1, lA, lB, lC, lD, lE, mapV_nil, *]
                  simp only [go_sem, ↓reduceIte, reduceCtorEq, nA, nB, nC, nD, nE, nF, nG, nH, iA, *]
                  cases r1671
                  dsimp only [St.on, Sum.elim_inr] at hc1649
                  cases hc1649
                  simp (maxDischargeDepth := 40) only [go_sem, ↓reduceIte, reduceCtorEq, nA, nB, nC, nD, nE, nF, nG, nH, iA, cast0, cast1, lA, lB, lC, lD, lE, mapV_nil, *]
              | false =>
                simp only [h1668, ↓reduceIte, Bool.false_eq_true] at r1666
                refine calld_meets ((ref04_small_ok h1665).le ?_) (by first | (simp only [go_sem, ↓reduceIte, reduceCtorEq, nA, nB, nC, nD, nE, nF, nG, nH, iA, *] <;> rfl) | rfl) (by simp only [go_sem, ↓reduceIte, reduceCtorEq, nA, nB, nC, nD, nE, nF, nG, nH, iA, *]) ?_
                · simp (maxDischargeDepth := 40) only [go_sem, ↓reduceIte, reduceCtorEq, nA, nB, nC, nD, nE, nF, nG, nH, iA, cast0, cast1, lA, lB, lC, lD, lE, mapV_nil, *]
                simp only [go_sem, ↓reduceIte, reduceCtorEq, nA, nB, nC, nD, nE, nF, nG, nH, iA, *]
                cases r1666
                refine hKhc1649 _ _ rfl ?_
                try dsimp only
                refine LeS.pick [some 0] rfl rfl ?_ ?_
                all_goals simp (maxDischargeDepth := 40) only [go_sem, ↓reduceIte, reduceCtorEq, nA, nB, nC, nD, nE, nF, nG, nH, iA, cast0, cast1, lA, lB, lC, lD, lE, mapV_nil, *]
            | false =>
              simp only [h1667, ↓reduceIte, Bool.false_eq_true] at r1666
              refine calld_meets ((ref04_small_ok h1665).le ?_) (by first | (simp only [go_sem, ↓reduceIte, reduceCtorEq, nA, nB, nC, nD, nE, nF, nG, nH, iA, *] <;> rfl) | rfl) (by simp only [go_sem, ↓reduceIte, reduceCtorEq, nA, nB, nC, nD, nE, nF, nG, nH, iA, *]) ?_
              · simp (maxDischargeDepth := 40) only [go_sem, ↓reduceIte, reduceCtorEq, nA, nB, nC, nD, nE, nF, nG, nH, iA, cast0, cast1, lA, lB, lC, lD, lE, mapV_nil, *]
              simp only [go_sem, ↓reduceIte, reduceCtorEq, nA, nB, nC, nD, nE, nF, nG, nH, iA, *]
              cases r1666
              dsimp only [St.on, Sum.elim_inr] at hc1649
              cases hc1649
              simp (maxDischargeDepth := 40) only [go_sem, ↓reduceIte, reduceCtorEq, nA, nB, nC, nD, nE, nF, nG, nH, iA, cast0, cast1, lA, lB, lC, lD, lE, mapV_nil, *]
        | false =>
          simp only [h1662, ↓reduceIte, Bool.false_eq_true] at r1661
          refine calld_meets ((ref04_Name_ok h1660).le ?_) (by first | (simp only [go_sem, ↓reduceIte, reduceCtorEq, nA, nB, nC, nD, nE, nF, nG, nH, iA, *] <;> rfl) | rfl) (by simp only [go_sem, ↓reduceIte, reduceCtorEq, nA, nB, nC, nD, nE, nF, nG, nH, iA, *]) ?_
          · simp (maxDischargeDepth := 40) only [go_sem, ↓reduceIte, reduceCtorEq, nA, nB, nC, nD, nE, nF, nG, nH, iA, cast0, cast1, lA, lB, lC, lD, lE, mapV_nil, *]
          simp only [go_sem, ↓reduceIte, reduceCtorEq, nA, nB, nC, nD, nE, nF, nG, nH, iA, *]
          cases r1661
          dsimp only [St.on, Sum.elim_inr] at hc1649
          cases hc1649
          simp (maxDischargeDepth := 40) only [go_sem, ↓reduceIte, reduceCtorEq, nA, nB, nC, nD, nE, nF, nG, nH, iA, cast0, cast1, lA, lB, lC, lD, lE, mapV_nil, *]
      · clear r1506
        intro s1646 r1506 h1650 h1654 Khc1649
        dsimp only [Sum.elim_inl] at r1506
        simp only [go_sem, ↓reduceIte, reduceCtorEq, nA, nB, nC, nD, nE, nF, nG, nH, iA, *]
        cases r1506
        simp (maxDischargeDepth := 40) only [go_sem, ↓reduceIte, reduceCtorEq, nA, nB, nC, nD, nE, nF, nG, nH, iA, cast0, cast1, lA, lB, lC, lD, lE, mapV_nil, *]
  | false =>
    simp only [h1507, ↓reduceIte, Bool.false_eq_true] at r1506
    refine call_meets ((ref04_small_ok h1505).le ?_) (by first | (simp only [go_sem, ↓reduceIte, reduceCtorEq, nA, nB, nC, nD, nE, nF, nG, nH, iA, *] <;> rfl) | rfl) ?_
    · simp (maxDischargeDepth := 40) only [go_sem, ↓reduceIte, reduceCtorEq, nA, nB, nC, nD, nE, nF, nG, nH, iA, cast0, cast1, lA, lB, lC, lD, lE, mapV_nil, *]
    simp only [go_sem, ↓reduceIte, reduceCtorEq, nA, nB, nC, nD, nE, nF, nG, nH, iA, *]
    cases r1506
    simp (maxDischargeDepth := 40) only [go_sem, ↓reduceIte, reduceCtorEq, nA, nB, nC, nD, nE, nF, nG, nH, iA, cast0, cast1, lA, lB, lC, lD, lE, mapV_nil, *]

def ref07_Size : Nat → T_api_Cert → Option Int
  | 0, _ => none
  | fuel + 1, a0 =>
  (forC (R := Int) (a0.f3.length) ((1 : Int) : Int) fun k1734 s1733 =>
  (a0.f3[k1734]?).bind fun x1742 =>
  (ref07_Size fuel x1742).bind fun y1746 =>
  some (.nx (IntKind.i64.wrap (s1733 + y1746)))).bind (Sum.elim (fun s1733 =>
  some s1733) some)
set_option maxHeartbeats 2000000 in
theorem ref07_Size_all (fuel : Nat) : ∀ {a0 : T_api_Cert} {r : Int}, ref07_Size fuel a0 = some r → Meets Try.prog 16 [.agg [.c (.int .i64 a0.f0), .sl false 1 (a0.f1.map e_int), .c (.int .i64 a0.f2.1), .sl false 2 (a0.f2.2.map e_api_Coef), .sl false 5 (a0.f3.map e_api_Cert)]] (.c (.int .i64 r)) := by
  induction fuel with
  | zero =>
    · intro a0 r hr
      rw [ref07_Size] at hr
      cases hr
  | succ fuel ih =>
    have ih_ref07_Size := @ih
    · intro a0 r hr
      rw [ref07_Size] at hr
      refine meetsV_of (X := true) Ty.mixed Try.func16 (by kernel_rfl) rfl (by kernel_rfl) (by simp) ?_; rw [Try.ntmps16, Try.results16]
      simp only [go_sem, ↓reduceIte, reduceCtorEq, nA, nB, nC, nD, nE, nF, nG, nH, iA, *]
      refine loop_for hr (fun k1734 s1733 => ⟨21, [(1, .ptr 0 0), (3, .c (.int .i64 s1733)), (4, .c (.int .i64 (k1734 : Int)))], [some (.var 29 [.c (.int .i64 a0.f0), .sl false 1 (a0.f1.map e_int), .c (.int .i64 a0.f2.1), .sl false 2 (a0.f2.2.map e_api_Coef), .sl false 5 (a0.f3.map e_api_Cert)])]⟩) ?_ ?_ ?_
      · try dsimp only
        refine LeS.pick [some 0] rfl rfl ?_ ?_
        all_goals simp (maxDischargeDepth := 40) only [go_sem, ↓reduceIte, reduceCtorEq, nA, nB, nC, nD, nE, nF, nG, nH, iA, cast0, cast1, lA, lB, lC, lD, lE, mapV_nil, *]
      · intro k1734 s1733 qhc1736 h1737 h1738 h1739 h1740 hq1735 hc1736 Khc1736 hKhc1736
        try dsimp only at hq1735
        obtain ⟨x1742, h1743, r1744⟩ := bindS hq1735
        clear hq1735
        try dsimp only at r1744
        have g7 := get_map e_api_Cert h1743
        simp only [go_sem, ↓reduceIte, reduceCtorEq, nA, nB, nC, nD, nE, nF, nG, nH, iA, *]
        obtain ⟨y1746, h1747, r1748⟩ := bindS r1744
        clear r1744
        try dsimp only at r1748
        refine call_meets ((ih_ref07_Size h1747).le ?_) (by first | (simp only [go_sem, ↓reduceIte, reduceCtorEq, nA, nB, nC, nD, nE, nF, nG, nH, iA, *] <;> rfl) | rfl) ?_
        · simp (maxDischargeDepth := 40) only [go_sem, ↓reduceIte, reduceCtorEq, nA, nB, nC, nD, nE, nF, nG, nH, iA, cast0, cast1, lA, lB, lC, lD, lE, mapV_nil, *]
        simp only [go_sem, ↓reduceIte, reduceCtorEq, nA, nB, nC, nD, nE, nF, nG, nH, iA, *]
        cases r1748
        refine hKhc1736 _ _ rfl ?_
        try dsimp only
        refine LeS.pick [some 0] rfl rfl ?_ ?_
        all_goals simp (maxDischargeDepth := 40) only [go_sem, ↓reduceIte, reduceCtorEq, nA, nB, nC, nD, nE, nF, nG, nH, iA, cast0, cast1, lA, lB, lC, lD, lE, mapV_nil, *]
      · clear hr
        intro s1733 hr h1737 h1741 Khc1736
        dsimp only [Sum.elim_inl] at hr
        simp only [go_sem, ↓reduceIte, reduceCtorEq, nA, nB, nC, nD, nE, nF, nG, nH, iA, *]
        cases hr
        simp (maxDischargeDepth := 40) only [go_sem, ↓reduceIte, reduceCtorEq, nA, nB, nC, nD, nE, nF, nG, nH, iA, cast0, cast1, lA, lB, lC, lD, lE, mapV_nil, *]
theorem ref07_Size_ok {fuel : Nat} : ∀ {a0 : T_api_Cert} {r : Int}, ref07_Size fuel a0 = some r → Meets Try.prog 16 [.agg [.c (.int .i64 a0.f0), .sl false 1 (a0.f1.map e_int), .c (.int .i64 a0.f2.1), .sl false 2 (a0.f2.2.map e_api_Coef), .sl false 5 (a0.f3.map e_api_Cert)]] (.c (.int .i64 r)) := ref07_Size_all fuel

def ref04_Plus (a0 : Int × (List (ByteArray × Int))) (a1 : ByteArray) (a2 : Int) : Option ((Int × (List (ByteArray × Int)))) :=
  (forC (R := (Int × (List (ByteArray × Int)))) (a0.2.length) (([], false) : (List (ByteArray × Int)) × Bool) fun k1904 s1903 =>
  (a0.2[k1904]?).bind fun x1912 =>
  if s1903.2 then
    if (eqB x1912.1 a1) then
      iffO (decide ((s1903.1.length + 1) * 24 ≤ 140737488355328))
        (some (.nx ((s1903.1 ++ [(x1912.1, (IntKind.i64.wrap (x1912.2 + a2)))]), true)))
    else
      iffO (decide ((s1903.1.length + 1) * 24 ≤ 140737488355328))
        (some (.nx ((s1903.1 ++ [x1912]), true)))
  else
    if (lessB x1912.1 a1) then
      if (eqB x1912.1 a1) then
        iffO (decide ((s1903.1.length + 1) * 24 ≤ 140737488355328))
          (some (.nx ((s1903.1 ++ [(x1912.1, (IntKind.i64.wrap (x1912.2 + a2)))]), true)))
      else
        iffO (decide ((s1903.1.length + 1) * 24 ≤ 140737488355328))
          (some (.nx ((s1903.1 ++ [x1912]), false)))
    else
      if (eqB x1912.1 a1) then
        iffO (decide ((s1903.1.length + 1) * 24 ≤ 140737488355328))
          (some (.nx ((s1903.1 ++ [(x1912.1, (IntKind.i64.wrap (x1912.2 + a2)))]), true)))
      else
        iffO (decide ((s1903.1.length + 1) * 24 ≤ 140737488355328))
          (iffO (decide (((s1903.1.length + 1) + 1) * 24 ≤ 140737488355328))
            (some (.nx (((s1903.1 ++ [(a1, a2)]) ++ [x1912]), true))))).bind (Sum.elim (fun s1903 =>
  if s1903.2 then
    (whlC (R := (Int × (List (ByteArray × Int)))) ((s1903.1, (0 : Int), (0 : Int)) : (List (ByteArray × Int)) × Int × Int) fun s1957 =>
      if (decide (s1957.2.2 < ((s1957.1.length : Nat) : Int))) then
        (idxO s1957.1 s1957.2.2).bind fun x1967 =>
        if (x1967.2 != (0 : Int)) then
          (idxO s1957.1 s1957.2.1).bind fun x1973 =>
          some (.nx ((s1957.1.set s1957.2.1.toNat x1967), (IntKind.i64.wrap (s1957.2.1 + (1 : Int))), (IntKind.i64.wrap (s1957.2.2 + (1 : Int)))))
        else
          some (.nx (s1957.1, s1957.2.1, (IntKind.i64.wrap (s1957.2.2 + (1 : Int)))))
      else
        some (.br (s1957.1, s1957.2.1, s1957.2.2))).bind (Sum.elim (fun s1957 =>
      iffO (decide (0 ≤ s1957.2.1) && decide (s1957.2.1 ≤ (s1957.1.length : Int)))
        (some (a0.1, (s1957.1.take s1957.2.1.toNat)))) some)
  else
    iffO (decide ((s1903.1.length + 1) * 24 ≤ 140737488355328))
      ((whlC (R := (Int × (List (ByteArray × Int)))) (((s1903.1 ++ [(a1, a2)]), (0 : Int), (0 : Int)) : (List (ByteArray × Int)) × Int × Int) fun s2011 =>
        if (decide (s2011.2.2 < ((s2011.1.length : Nat) : Int))) then
          (idxO s2011.1 s2011.2.2).bind fun x2021 =>
          if (x2021.2 != (0 : Int)) then
            (idxO s2011.1 s2011.2.1).bind fun x2027 =>
            some (.nx ((s2011.1.set s2011.2.1.toNat x2021), (IntKind.i64.wrap (s2011.2.1 + (1 : Int))), (IntKind.i64.wrap (s2011.2.2 + (1 : Int)))))
          else
            some (.nx (s2011.1, s2011.2.1, (IntKind.i64.wrap (s2011.2.2 + (1 : Int)))))
        else
          some (.br (s2011.1, s2011.2.1, s2011.2.2))).bind (Sum.elim (fun s2011 =>
        iffO (decide (0 ≤ s2011.2.1) && decide (s2011.2.1 ≤ (s2011.1.length : Int)))
          (some (a0.1, (s2011.1.take s2011.2.1.toNat)))) some))) some)
set_option maxHeartbeats 2000000 in
theorem ref04_Plus_ok {a0 : Int × (List (ByteArray × Int))} {a1 : ByteArray} {a2 : Int} {r : (Int × (List (ByteArray × Int)))} (hr : ref04_Plus a0 a1 a2 = some r) : Meets Try.prog 36 [.agg [.c (.int .i64 a0.1), .sl false 2 (a0.2.map e_api_Coef)], .c (.string a1), .c (.int .i64 a2)] (.agg [.c (.int .i64 r.1), .sl false 2 (r.2.map e_api_Coef)]) := by
  unfold ref04_Plus at hr
  refine meetsV_of (X := true) Ty.mixed Try.func36 (by kernel_rfl) rfl (by kernel_rfl) (by simp) ?_; rw [Try.ntmps36, Try.results36]
  simp only [go_sem, ↓reduceIte, reduceCtorEq, nA, nB, nC, nD, nE, nF, nG, nH, iA, *]
  refine loop_for hr (fun k1904 s1903 => ⟨100, [(1, .c (.string a1)), (2, .c (.int .i64 a2)), (3, .ptr 0 0), (6, .ptr 1 0), (7, .ptr 2 0), (8, .c (.bool s1903.2)), (9, .c (.int .i64 (k1904 : Int)))], [some (.var 26 [.c (.int .i64 a0.1), .sl false 2 (a0.2.map e_api_Coef)]), some (.var 26 [.c (.int .i64 (0 : Int)), .nils]), some (.var 26 [.c (.int .i64 a0.1), .own 3 2 s1903.1.length]), some (.row 71 2 (s1903.1.map e_api_Coef))]⟩) ?_ ?_ ?_
  · try dsimp only
    refine LeS.pick [some 0, some 1, some 2, none] rfl rfl ?_ ?_
    all_goals simp (maxDischargeDepth := 40) only [go_sem, ↓reduceIte, reduceCtorEq, nA, nB, nC, nD, nE, nF, nG, nH, iA, cast0, cast1, lA, lB, lC, lD, lE, mapV_nil, *]
  · intro k1904 s1903 qhc1906 h1907 h1908 h1909 h1910 hq1905 hc1906 Khc1906 hKhc1906
    try dsimp only at hq1905
    obtain ⟨x1912, h1913, r1914⟩ := bindS hq1905
    clear hq1905
    try dsimp only at r1914
    cases h1916 : s1903.2 with
    | true =>
      simp only [h1916, ↓reduceIte, Bool.false_eq_true] at r1914
      cases h1917 : (eqB x1912.1 a1) with
      | true =>
        simp only [h1917, ↓reduceIte, Bool.false_eq_true] at r1914
        obtain ⟨h1918, r1919⟩ := iffO_some r1914
        clear r1914
        simp only [Bool.and_eq_true, decide_eq_true_eq] at h1918
        have g10 := get_map e_api_Coef h1913
        simp only [go_sem, ↓reduceIte, reduceCtorEq, nA, nB, nC, nD, nE, nF, nG, nH, iA, *]
        repeat refine ⟨by first | omega | (simp only [List.length_append, List.length_cons, List.length_nil, List.length_map, Nat.zero_add] at *; omega), ?_⟩
        cases r1919
        refine hKhc1906 _ _ rfl ?_
        try dsimp only
        refine LeS.pick [some 0, some 1, some 2, some 3] rfl rfl ?_ ?_
        all_goals simp (maxDischargeDepth := 40) only [go_sem, ↓reduceIte, reduceCtorEq, nA, nB, nC, nD, nE, nF, nG, nH, iA, cast0, cast1, lA, lB, lC, lD, lE, mapV_nil, *]
      | false =>
        simp only [h1917, ↓reduceIte, Bool.false_eq_true] at r1914
        obtain ⟨h1920, r1921⟩ := iffO_some r1914
        clear r1914
        simp only [Bool.and_eq_true, decide_eq_true_eq] at h1920
        have g11 := get_map e_api_Coef h1913
        simp only [go_sem, ↓reduceIte, reduceCtorEq, nA, nB, nC, nD, nE, nF, nG, nH, iA, *]
        repeat refine ⟨by first | omega | (simp only [List.length_append, List.length_cons, List.length_nil, List.length_map, Nat.zero_add] at *; omega), ?_⟩
        cases r1921
        refine hKhc1906 _ _ rfl ?_
        try dsimp only
        refine LeS.pick [some 0, some 1, some 2, some 3] rfl rfl ?_ ?_
        all_goals simp (maxDischargeDepth := 40) only [go_sem, ↓reduceIte, reduceCtorEq, nA, nB, nC, nD, nE, nF, nG, nH, iA, cast0, cast1, lA, lB, lC, lD, lE, mapV_nil, *]
    | false =>
      simp only [h1916, ↓reduceIte, Bool.false_eq_true] at r1914
      cases h1922 : (lessB x1912.1 a1) with
      | true =>
        simp only [h1922, ↓reduceIte, Bool.false_eq_true] at r1914
        cases h1923 : (eqB x1912.1 a1) with
        | true =>
          simp only [h1923, ↓reduceIte, Bool.false_eq_true] at r1914
          obtain ⟨h1924, r1925⟩ := iffO_some r1914
          clear r1914
          simp only [Bool.and_eq_true, decide_eq_true_eq] at h1924
          have g12 := get_map e_api_Coef h1913
          simp only [go_sem, ↓reduceIte, reduceCtorEq, nA, nB, nC, nD, nE, nF, nG, nH, iA, *]
          repeat refine ⟨by first | omega | (simp only [List.length_append, List.length_cons, List.length_nil, List.length_map, Nat.zero_add] at *; omega), ?_⟩
          cases r1925
          refine hKhc1906 _ _ rfl ?_
          try dsimp only
          refine LeS.pick [some 0, some 1, some 2, some 3] rfl rfl ?_ ?_
          all_goals simp (maxDischargeDepth := 40) only [go_sem, ↓reduceIte, reduceCtorEq, nA, nB, nC, nD, nE, nF, nG, nH, iA, cast0, cast1, lA, lB, lC, lD, lE, mapV_nil, *]
        | false =>
          simp only [h1923, ↓reduceIte, Bool.false_eq_true] at r1914
          obtain ⟨h1926, r1927⟩ := iffO_some r1914
          clear r1914
          simp only [Bool.and_eq_true, decide_eq_true_eq] at h1926
          have g13 := get_map e_api_Coef h1913
          simp only [go_sem, ↓reduceIte, reduceCtorEq, nA, nB, nC, nD, nE, nF, nG, nH, iA, *]
          repeat refine ⟨by first | omega | (simp only [List.length_append, List.length_cons, List.length_nil, List.length_map, Nat.zero_add] at *; omega), ?_⟩
          cases r1927
          refine hKhc1906 _ _ rfl ?_
          try dsimp only
          refine LeS.pick [some 0, some 1, some 2, some 3] rfl rfl ?_ ?_
          all_goals simp (maxDischargeDepth := 40) only [go_sem, ↓reduceIte, reduceCtorEq, nA, nB, nC, nD, nE, nF, nG, nH, iA, cast0, cast1, lA, lB, lC, lD, lE, mapV_nil, *]
      | false =>
        simp only [h1922, ↓reduceIte, Bool.false_eq_true] at r1914
        cases h1928 : (eqB x1912.1 a1) with
        | true =>
          simp only [h1928, ↓reduceIte, Bool.false_eq_true] at r1914
          obtain ⟨h1929, r1930⟩ := iffO_some r1914
          clear r1914
          simp only [Bool.and_eq_true, decide_eq_true_eq] at h1929
          have g14 := get_map e_api_Coef h1913
          simp only [go_sem, ↓reduceIte, reduceCtorEq, nA, nB, nC, nD, nE, nF, nG, nH, iA, *]
          repeat refine ⟨by first | omega | (simp only [List.length_append, List.length_cons, List.length_nil, List.length_map, Nat.zero_add] at *; omega), ?_⟩
          cases r1930
          refine hKhc1906 _ _ rfl ?_
          try dsimp only
          refine LeS.pick [some 0, some 1, some 2, some 3] rfl rfl ?_ ?_
          all_goals simp (maxDischargeDepth := 40) only [go_sem, ↓reduceIte, reduceCtorEq, nA, nB, nC, nD, nE, nF, nG, nH, iA, cast0, cast1, lA, lB, lC, lD, lE, mapV_nil, *]
        | false =>
          simp only [h1928, ↓reduceIte, Bool.false_eq_true] at r1914
          obtain ⟨h1931, r1932⟩ := iffO_some r1914
          clear r1914
          simp only [Bool.and_eq_true, decide_eq_true_eq] at h1931
          obtain ⟨h1933, r1934⟩ := iffO_some r1932
          clear r1932
          simp only [Bool.and_eq_true, decide_eq_true_eq] at h1933
          have g15 := get_map e_api_Coef h1913
          simp only [go_sem, ↓reduceIte, reduceCtorEq, nA, nB, nC, nD, nE, nF, nG, nH, iA, *]
          repeat refine ⟨by first | omega | (simp only [List.length_append, List.length_cons, List.length_nil, List.length_map, Nat.zero_add] at *; omega), ?_⟩
          cases r1934
          refine hKhc1906 _ _ rfl ?_
          try dsimp only
          refine LeS.pick [some 0, some 1, some 2, some 3] rfl rfl ?_ ?_
          all_goals simp (maxDischargeDepth := 40) only [go_sem, ↓reduceIte, reduceCtorEq, nA, nB, nC, nD, nE, nF, nG, nH, iA, cast0, cast1, lA, lB, lC, lD, lE, mapV_nil, *]
  · clear hr
    intro s1903 hr h1907 h1911 Khc1906
    dsimp only [Sum.elim_inl] at hr
    cases h1935 : s1903.2 with
    | true =>
      simp only [h1935, ↓reduceIte, Bool.false_eq_true] at hr
      simp only [go_sem, ↓reduceIte, reduceCtorEq, nA, nB, nC, nD, nE, nF, nG, nH, iA, *]
      refine loop_whl hr (fun s1957 => ⟨100, [(6, .ptr 1 0), (7, .ptr 2 0), (11, .c (.int .i64 s1957.2.1)), (12, .c (.int .i64 s1957.2.2))], [some (.var 26 [.c (.int .i64 a0.1), .sl false 2 (a0.2.map e_api_Coef)]), some (.var 26 [.c (.int .i64 (0 : Int)), .nils]), some (.var 26 [.c (.int .i64 a0.1), .own 3 2 s1957.1.length]), some (.row 71 2 (s1957.1.map e_api_Coef))]⟩) ?_ ?_
      · try dsimp only
        refine LeS.pick [some 0, some 1, some 2, some 3] rfl rfl ?_ ?_
        all_goals simp (maxDischargeDepth := 40) only [go_sem, ↓reduceIte, reduceCtorEq, nA, nB, nC, nD, nE, nF, nG, nH, iA, cast0, cast1, lA, lB, lC, lD, lE, mapV_nil, *]
      · intro s1957 qhc1960 hq1959 hc1960 Khc1960 hKhc1960
        try dsimp only at hq1959
        cases h1966 : (decide (s1957.2.2 < ((s1957.1.length : Nat) : Int))) with
        | true =>
          simp only [h1966, ↓reduceIte, Bool.false_eq_true] at hq1959
          obtain ⟨x1967, h1969, r1970⟩ := bindS hq1959
          clear hq1959
          try dsimp only at r1970
          obtain ⟨h1971, _, h1969⟩ := idxO_some h1969
          have h1968 := (List.getElem?_eq_some_iff.1 h1969).1
          cases h1972 : (x1967.2 != (0 : Int)) with
          | true =>
            simp only [h1972, ↓reduceIte, Bool.false_eq_true] at r1970
            have g16 := get_map e_api_Coef h1969
            have g17 := (fun i => Nat.mul_div_cancel i (by decide : 0 < 2))
            simp only [go_sem, ↓reduceIte, reduceCtorEq, nA, nB, nC, nD, nE, nF, nG, nH, iA, Nat.mul_mod_left, *]
            obtain ⟨x1973, h1975, r1976⟩ := bindS r1970
            clear r1970
            try dsimp only at r1976
            obtain ⟨h1977, _, h1975⟩ := idxO_some h1975
            have h1974 := (List.getElem?_eq_some_iff.1 h1975).1
            refine drawS_tail (by kernel_rfl) ?_
            have g18 := get_map e_api_Coef h1975
            simp only [go_sem, ↓reduceIte, reduceCtorEq, nA, nB, nC, nD, nE, nF, nG, nH, iA, Nat.mul_mod_left, Nat.mul_mod_left, *]
            cases r1976
            refine hKhc1960 _ _ rfl ?_
            try dsimp only
            refine LeS.pick [some 0, some 1, some 2, some 3] rfl rfl ?_ ?_
            all_goals simp (maxDischargeDepth := 40) only [go_sem, ↓reduceIte, reduceCtorEq, nA, nB, nC, nD, nE, nF, nG, nH, iA, cast0, cast1, lA, lB, lC, lD, lE, mapV_nil, Nat.mul_mod_left, Nat.mul_mod_left, *]
          | false =>
            simp only [h1972, ↓reduceIte, Bool.false_eq_true] at r1970
            have g19 := get_map e_api_Coef h1969
            have g20 := (fun i => Nat.mul_div_cancel i (by decide : 0 < 2))
            simp only [go_sem, ↓reduceIte, reduceCtorEq, nA, nB, nC, nD, nE, nF, nG, nH, iA, Nat.mul_mod_left, *]
            cases r1970
            refine hKhc1960 _ _ rfl ?_
            try dsimp only
            refine LeS.pick [some 0, some 1, some 2, some 3] rfl rfl ?_ ?_
            all_goals simp (maxDischargeDepth := 40) only [go_sem, ↓reduceIte, reduceCtorEq, nA, nB, nC, nD, nE, nF, nG, nH, iA, cast0, cast1, lA, lB, lC, lD, lE, mapV_nil, Nat.mul_mod_left, *]
        | false =>
          simp only [h1966, ↓reduceIte, Bool.false_eq_true] at hq1959
          cases hq1959
          dsimp only [St.on, Sum.elim_inl] at hc1960
          obtain ⟨h1979, r1980⟩ := iffO_some hc1960
          clear hc1960
          simp only [Bool.and_eq_true, decide_eq_true_eq] at h1979
          obtain ⟨h1981, h1982⟩ := h1979
          have h1978 : s1957.2.1.toNat ≤ s1957.1.length := by omega
          simp only [go_sem, ↓reduceIte, reduceCtorEq, nA, nB, nC, nD, nE, nF, nG, nH, iA, *]
          cases r1980
          simp (maxDischargeDepth := 40) only [go_sem, ↓reduceIte, reduceCtorEq, nA, nB, nC, nD, nE, nF, nG, nH, iA, cast0, cast1, lA, lB, lC, lD, lE, mapV_nil, *]
    | false =>
      simp only [h1935, ↓reduceIte, Bool.false_eq_true] at hr
      obtain ⟨h1988, r1989⟩ := iffO_some hr
      clear hr
      simp only [Bool.and_eq_true, decide_eq_true_eq] at h1988
      simp only [go_sem, ↓reduceIte, reduceCtorEq, nA, nB, nC, nD, nE, nF, nG, nH, iA, *]
      repeat refine ⟨by first | omega | (simp only [List.length_append, List.length_cons, List.length_nil, List.length_map, Nat.zero_add] at *; omega), ?_⟩
      refine loop_whl r1989 (fun s2011 => ⟨100, [(6, .ptr 1 0), (7, .ptr 2 0), (11, .c (.int .i64 s2011.2.1)), (12, .c (.int .i64 s2011.2.2))], [some (.var 26 [.c (.int .i64 a0.1), .sl false 2 (a0.2.map e_api_Coef)]), some (.var 26 [.c (.int .i64 (0 : Int)), .nils]), some (.var 26 [.c (.int .i64 a0.1), .own 3 2 s2011.1.length]), some (.row 71 2 (s2011.1.map e_api_Coef)), some (.row 71 2 ([(a1, a2)].map e_api_Coef))]⟩) ?_ ?_
      · try dsimp only
        refine LeS.pick [some 0, some 1, some 2, some 3, some 4] rfl rfl ?_ ?_
        all_goals simp (maxDischargeDepth := 40) only [go_sem, ↓reduceIte, reduceCtorEq, nA, nB, nC, nD, nE, nF, nG, nH, iA, cast0, cast1, lA, lB, lC, lD, lE, mapV_nil, *]
      · intro s2011 qhc2014 hq2013 hc2014 Khc2014 hKhc2014
        try dsimp only at hq2013
        cases h2020 : (decide (s2011.2.2 < ((s2011.1.length : Nat) : Int))) with
        | true =>
          simp only [h2020, ↓reduceIte, Bool.false_eq_true] at hq2013
          obtain ⟨x2021, h2023, r2024⟩ := bindS hq2013
          clear hq2013
          try dsimp only at r2024
          obtain ⟨h2025, _, h2023⟩ := idxO_some h2023
          have h2022 := (List.getElem?_eq_some_iff.1 h2023).1
          cases h2026 : (x2021.2 != (0 : Int)) with
          | true =>
            simp only [h2026, ↓reduceIte, Bool.false_eq_true] at r2024
            have g21 := get_map e_api_Coef h2023
            have g22 := (fun i => Nat.mul_div_cancel i (by decide : 0 < 2))
            simp only [go_sem, ↓reduceIte, reduceCtorEq, nA, nB, nC, nD, nE, nF, nG, nH, iA, Nat.mul_mod_left, *]
            obtain ⟨x2027, h2029, r2030⟩ := bindS r2024
            clear r2024
            try dsimp only at r2030
            obtain ⟨h2031, _, h2029⟩ := idxO_some h2029
            have h2028 := (List.getElem?_eq_some_iff.1 h2029).1
            refine drawS_tail (by kernel_rfl) ?_
            have g23 := get_map e_api_Coef h2029
            simp only [go_sem, ↓reduceIte, reduceCtorEq, nA, nB, nC, nD, nE, nF, nG, nH, iA, Nat.mul_mod_left, Nat.mul_mod_left, *]
            cases r2030
            refine hKhc2014 _ _ rfl ?_
            try dsimp only
            refine LeS.pick [some 0, some 1, some 2, some 3, some 4] rfl rfl ?_ ?_
            all_goals simp (maxDischargeDepth := 40) only [go_sem, ↓reduceIte, reduceCtorEq, nA, nB, nC, nD, nE, nF, nG, nH, iA, cast0, cast1, lA, lB, lC, lD, lE, mapV_nil, Nat.mul_mod_left, Nat.mul_mod_left, *]
          | false =>
            simp only [h2026, ↓reduceIte, Bool.false_eq_true] at r2024
            have g24 := get_map e_api_Coef h2023
            have g25 := (fun i => Nat.mul_div_cancel i (by decide : 0 < 2))
            simp only [go_sem, ↓reduceIte, reduceCtorEq, nA, nB, nC, nD, nE, nF, nG, nH, iA, Nat.mul_mod_left, *]
            cases r2024
            refine hKhc2014 _ _ rfl ?_
            try dsimp only
            refine LeS.pick [some 0, some 1, some 2, some 3, some 4] rfl rfl ?_ ?_
            all_goals simp (maxDischargeDepth := 40) only [go_sem, ↓reduceIte, reduceCtorEq, nA, nB, nC, nD, nE, nF, nG, nH, iA, cast0, cast1, lA, lB, lC, lD, lE, mapV_nil, Nat.mul_mod_left, *]
        | false =>
          simp only [h2020, ↓reduceIte, Bool.false_eq_true] at hq2013
          cases hq2013
          dsimp only [St.on, Sum.elim_inl] at hc2014
          obtain ⟨h2033, r2034⟩ := iffO_some hc2014
          clear hc2014
          simp only [Bool.and_eq_true, decide_eq_true_eq] at h2033
          obtain ⟨h2035, h2036⟩ := h2033
          have h2032 : s2011.2.1.toNat ≤ s2011.1.length := by omega
          simp only [go_sem, ↓reduceIte, reduceCtorEq, nA, nB, nC, nD, nE, nF, nG, nH, iA, *]
          cases r2034
          simp (maxDischargeDepth := 40) only [go_sem, ↓reduceIte, reduceCtorEq, nA, nB, nC, nD, nE, nF, nG, nH, iA, cast0, cast1, lA, lB, lC, lD, lE, mapV_nil, *]

def ref04_Of (a0 : Int) : Option ((Int × (List (ByteArray × Int)))) :=
  some (a0, [])
set_option maxHeartbeats 2000000 in
theorem ref04_Of_ok {a0 : Int} {r : (Int × (List (ByteArray × Int)))} (hr : ref04_Of a0 = some r) : Meets Try.prog 37 [.c (.int .i64 a0)] (.agg [.c (.int .i64 r.1), .sl false 2 (r.2.map e_api_Coef)]) := by
  unfold ref04_Of at hr
  refine meetsV_of (X := true) Ty.mixed Try.func37 (by kernel_rfl) rfl (by kernel_rfl) (by simp) ?_; rw [Try.ntmps37, Try.results37]
  simp only [go_sem, ↓reduceIte, reduceCtorEq, nA, nB, nC, nD, nE, nF, nG, nH, iA, *]
  cases hr
  simp (maxDischargeDepth := 40) only [go_sem, ↓reduceIte, reduceCtorEq, nA, nB, nC, nD, nE, nF, nG, nH, iA, cast0, cast1, lA, lB, lC, lD, lE, mapV_nil, *]

def ref04_Eval (a0 : Int × (List (ByteArray × Int))) (a1 : List (ByteArray × Int)) : Option (Int × Int) :=
  (ref04_Valid a0).bind fun y2779 =>
if y2779 then
  (forC (R := Int × Int) (a0.2.length) (a0.1 : Int) fun k2874 s2873 =>
    (whlC (R := Int × Int) ((0 : Int) : Int) fun s2903 =>
      if (decide (s2903 < ((a1.length : Nat) : Int))) then
        (idxO a1 s2903).bind fun x2913 =>
        (a0.2[k2874]?).bind fun x2917 =>
        if (eqB x2913.1 x2917.1) then
          some (.br s2903)
        else
          some (.nx (IntKind.i64.wrap (s2903 + (1 : Int))))
      else
        some (.br s2903)).bind (Sum.elim (fun s2903 =>
      if (s2903 == ((a1.length : Nat) : Int)) then
        some (.rt ((0 : Int), (7 : Int)))
      else
        (idxO a1 s2903).bind fun x2945 =>
        if (decide (x2945.2 < (-1000000000 : Int))) then
          some (.rt ((0 : Int), (2 : Int)))
        else
          if (decide ((1000000000 : Int) < x2945.2)) then
            some (.rt ((0 : Int), (2 : Int)))
          else
            (a0.2[k2874]?).bind fun x2951 =>
            some (.nx (IntKind.i64.wrap (s2873 + (IntKind.i64.wrap (x2951.2 * x2945.2)))))) (fun r => some (.rt r)))).bind (Sum.elim (fun s2873 =>
    some (s2873, (0 : Int))) some)
else
  some ((0 : Int), (1 : Int))
set_option maxHeartbeats 2000000 in
theorem ref04_Eval_ok {a0 : Int × (List (ByteArray × Int))} {a1 : List (ByteArray × Int)} {r : Int × Int} (hr : ref04_Eval a0 a1 = some r) : Meets Try.prog 31 [.agg [.c (.int .i64 a0.1), .sl false 2 (a0.2.map e_api_Coef)], .sl false 2 (a1.map e_api_Value)] (.tup [.c (.int .i64 r.1), .c (.int .i64 r.2)]) := by
  unfold ref04_Eval at hr
  refine meetsV_of (X := true) Ty.mixed Try.func31 (by kernel_rfl) rfl (by kernel_rfl) (by simp) ?_; rw [Try.ntmps31, Try.results31]
  simp only [go_sem, ↓reduceIte, reduceCtorEq, nA, nB, nC, nD, nE, nF, nG, nH, iA, *]
  obtain ⟨y2779, h2780, r2781⟩ := bindS hr
  clear hr
  try dsimp only at r2781
  cases h2782 : y2779 with
  | true =>
    simp only [h2782, ↓reduceIte, Bool.false_eq_true] at r2781
    refine call_meets ((ref04_Valid_ok h2780).le ?_) (by first | (simp only [go_sem, ↓reduceIte, reduceCtorEq, nA, nB, nC, nD, nE, nF, nG, nH, iA, *] <;> rfl) | rfl) ?_
    · simp (maxDischargeDepth := 40) only [go_sem, ↓reduceIte, reduceCtorEq, nA, nB, nC, nD, nE, nF, nG, nH, iA, cast0, cast1, lA, lB, lC, lD, lE, mapV_nil, *]
    simp only [go_sem, ↓reduceIte, reduceCtorEq, nA, nB, nC, nD, nE, nF, nG, nH, iA, *]
    refine loop_for r2781 (fun k2874 s2873 => ⟨68, [(1, .sl false 2 (a1.map e_api_Value)), (2, .ptr 0 0), (6, .c (.int .i64 s2873)), (7, .c (.int .i64 (k2874 : Int)))], [some (.var 26 [.c (.int .i64 a0.1), .sl false 2 (a0.2.map e_api_Coef)])]⟩) ?_ ?_ ?_
    · try dsimp only
      refine LeS.pick [some 0] rfl rfl ?_ ?_
      all_goals simp (maxDischargeDepth := 40) only [go_sem, ↓reduceIte, reduceCtorEq, nA, nB, nC, nD, nE, nF, nG, nH, iA, cast0, cast1, lA, lB, lC, lD, lE, mapV_nil, *]
    · intro k2874 s2873 qhc2876 h2877 h2878 h2879 h2880 hq2875 hc2876 Khc2876 hKhc2876
      try dsimp only at hq2875
      simp only [go_sem, ↓reduceIte, reduceCtorEq, nA, nB, nC, nD, nE, nF, nG, nH, iA, *]
      refine loop_whl hq2875 (fun s2903 => ⟨68, [(1, .sl false 2 (a1.map e_api_Value)), (2, .ptr 0 0), (6, .c (.int .i64 s2873)), (7, .c (.int .i64 (k2874 : Int))), (8, .c (.int .i64 s2903))], [some (.var 26 [.c (.int .i64 a0.1), .sl false 2 (a0.2.map e_api_Coef)])]⟩) ?_ ?_
      · try dsimp only
        refine LeS.pick [some 0] rfl rfl ?_ ?_
        all_goals simp (maxDischargeDepth := 40) only [go_sem, ↓reduceIte, reduceCtorEq, nA, nB, nC, nD, nE, nF, nG, nH, iA, cast0, cast1, lA, lB, lC, lD, lE, mapV_nil, *]
      · intro s2903 qhc2906 hq2905 hc2906 Khc2906 hKhc2906
        try dsimp only at hq2905
        simp only [go_sem, ↓reduceIte, reduceCtorEq, nA, nB, nC, nD, nE, nF, nG, nH, iA, *]
        cases h2912 : (decide (s2903 < ((a1.length : Nat) : Int))) with
        | true =>
          simp only [h2912, ↓reduceIte, Bool.false_eq_true] at hq2905
          obtain ⟨x2913, h2914, r2915⟩ := bindS hq2905
          clear hq2905
          try dsimp only at r2915
          obtain ⟨h2916, _, h2914⟩ := idxO_some h2914
          obtain ⟨x2917, h2918, r2919⟩ := bindS r2915
          clear r2915
          try dsimp only at r2919
          cases h2921 : (eqB x2913.1 x2917.1) with
          | true =>
            simp only [h2921, ↓reduceIte, Bool.false_eq_true] at r2919
            cases r2919
            dsimp only [St.on, Sum.elim_inl] at hc2906
            cases h2922 : (s2903 == ((a1.length : Nat) : Int)) with
            | true =>
              simp only [h2922, ↓reduceIte, Bool.false_eq_true] at hc2906
              refine drawS_tail (by kernel_rfl) ?_
              have g74 := get_map e_api_Value h2914
              have g75 := get_map e_api_Coef h2918
              simp only [go_sem, ↓reduceIte, reduceCtorEq, nA, nB, nC, nD, nE, nF, nG, nH, iA, *]
              cases hc2906
              dsimp only [St.on, Sum.elim_inr] at hc2876
              cases hc2876
              simp (maxDischargeDepth := 40) only [go_sem, ↓reduceIte, reduceCtorEq, nA, nB, nC, nD, nE, nF, nG, nH, iA, cast0, cast1, lA, lB, lC, lD, lE, mapV_nil, *]
            | false =>
              simp only [h2922, ↓reduceIte, Bool.false_eq_true] at hc2906
              obtain ⟨x2923, h2924, r2925⟩ := bindS hc2906
              clear hc2906
              try dsimp only at r2925
              obtain ⟨h2926, _, h2924⟩ := idxO_some h2924
              obtain rfl : x2913 = x2923 := Option.some.inj (h2914.symm.trans h2924)
              cases h2927 : (decide (x2913.2 < (-1000000000 : Int))) with
              | true =>
                simp only [h2927, ↓reduceIte, Bool.false_eq_true] at r2925
                try simp only [↓reduceIte, Bool.false_eq_true, Bool.not_true, Bool.not_false] at r2925
                try simp only [↓reduceIte, Bool.false_eq_true, Bool.not_true, Bool.not_false] at r2925
                refine drawS_tail (by kernel_rfl) ?_
                have g76 := get_map e_api_Value h2914
                have g77 := get_map e_api_Coef h2918
                simp only [go_sem, ↓reduceIte, reduceCtorEq, nA, nB, nC, nD, nE, nF, nG, nH, iA, *]
                cases r2925
                dsimp only [St.on, Sum.elim_inr] at hc2876
                cases hc2876
                simp (maxDischargeDepth := 40) only [go_sem, ↓reduceIte, reduceCtorEq, nA, nB, nC, nD, nE, nF, nG, nH, iA, cast0, cast1, lA, lB, lC, lD, lE, mapV_nil, *]
              | false =>
                simp only [h2927, ↓reduceIte, Bool.false_eq_true] at r2925
                try simp only [↓reduceIte, Bool.false_eq_true, Bool.not_true, Bool.not_false] at r2925
                cases h2928 : (decide ((1000000000 : Int) < x2913.2)) with
                | true =>
                  simp only [h2928, ↓reduceIte, Bool.false_eq_true] at r2925
                  refine drawS_tail (by kernel_rfl) ?_
                  have g78 := get_map e_api_Value h2914
                  have g79 := get_map e_api_Coef h2918
                  simp only [go_sem, ↓reduceIte, reduceCtorEq, nA, nB, nC, nD, nE, nF, nG, nH, iA, *]
                  cases r2925
                  dsimp only [St.on, Sum.elim_inr] at hc2876
                  cases hc2876
                  simp (maxDischargeDepth := 40) only [go_sem, ↓reduceIte, reduceCtorEq, nA, nB, nC, nD, nE, nF, nG, nH, iA, cast0, cast1, lA, lB, lC, lD, lE, mapV_nil, *]
                | false =>
                  simp only [h2928, ↓reduceIte, Bool.false_eq_true] at r2925
                  obtain ⟨x2929, h2930, r2931⟩ := bindS r2925
                  clear r2925
                  try dsimp only at r2931
                  obtain rfl : x2917 = x2929 := Option.some.inj (h2918.symm.trans h2930)
                  refine drawS_tail (by kernel_rfl) ?_
                  have g80 := get_map e_api_Value h2914
                  have g81 := get_map e_api_Coef h2918
                  simp only [go_sem, ↓reduceIte, reduceCtorEq, nA, nB, nC, nD, nE, nF, nG, nH, iA, *]
                  cases r2931
                  refine hKhc2876 _ _ rfl ?_
                  try dsimp only
                  refine LeS.pick [some 0] rfl rfl ?_ ?_
                  all_goals simp (maxDischargeDepth := 40) only [go_sem, ↓reduceIte, reduceCtorEq, nA, nB, nC, nD, nE, nF, nG, nH, iA, cast0, cast1, lA, lB, lC, lD, lE, mapV_nil, *]
          | false =>
            simp only [h2921, ↓reduceIte, Bool.false_eq_true] at r2919
            refine drawS_tail (by kernel_rfl) ?_
            have g82 := get_map e_api_Value h2914
            have g83 := get_map e_api_Coef h2918
            simp only [go_sem, ↓reduceIte, reduceCtorEq, nA, nB, nC, nD, nE, nF, nG, nH, iA, *]
            cases r2919
            refine hKhc2906 _ _ rfl ?_
            try dsimp only
            refine LeS.pick [some 0] rfl rfl ?_ ?_
            all_goals simp (maxDischargeDepth := 40) only [go_sem, ↓reduceIte, reduceCtorEq, nA, nB, nC, nD, nE, nF, nG, nH, iA, cast0, cast1, lA, lB, lC, lD, lE, mapV_nil, *]
        | false =>
          simp only [h2912, ↓reduceIte, Bool.false_eq_true] at hq2905
          cases hq2905
          dsimp only [St.on, Sum.elim_inl] at hc2906
          cases h2933 : (s2903 == ((a1.length : Nat) : Int)) with
          | true =>
            simp only [h2933, ↓reduceIte, Bool.false_eq_true] at hc2906
            refine drawS_tail (by kernel_rfl) ?_
            simp only [go_sem, ↓reduceIte, reduceCtorEq, nA, nB, nC, nD, nE, nF, nG, nH, iA, *]
            cases hc2906
            dsimp only [St.on, Sum.elim_inr] at hc2876
            cases hc2876
            simp (maxDischargeDepth := 40) only [go_sem, ↓reduceIte, reduceCtorEq, nA, nB, nC, nD, nE, nF, nG, nH, iA, cast0, cast1, lA, lB, lC, lD, lE, mapV_nil, *]
          | false =>
            simp only [h2933, ↓reduceIte, Bool.false_eq_true] at hc2906
            obtain ⟨x2934, h2935, r2936⟩ := bindS hc2906
            clear hc2906
            try dsimp only at r2936
            obtain ⟨h2937, _, h2935⟩ := idxO_some h2935
            cases h2938 : (decide (x2934.2 < (-1000000000 : Int))) with
            | true =>
              simp only [h2938, ↓reduceIte, Bool.false_eq_true] at r2936
              try simp only [↓reduceIte, Bool.false_eq_true, Bool.not_true, Bool.not_false] at r2936
              try simp only [↓reduceIte, Bool.false_eq_true, Bool.not_true, Bool.not_false] at r2936
              refine drawS_tail (by kernel_rfl) ?_
              have g84 := get_map e_api_Value h2935
              simp only [go_sem, ↓reduceIte, reduceCtorEq, nA, nB, nC, nD, nE, nF, nG, nH, iA, *]
              cases r2936
              dsimp only [St.on, Sum.elim_inr] at hc2876
              cases hc2876
              simp (maxDischargeDepth := 40) only [go_sem, ↓reduceIte, reduceCtorEq, nA, nB, nC, nD, nE, nF, nG, nH, iA, cast0, cast1, lA, lB, lC, lD, lE, mapV_nil, *]
            | false =>
              simp only [h2938, ↓reduceIte, Bool.false_eq_true] at r2936
              try simp only [↓reduceIte, Bool.false_eq_true, Bool.not_true, Bool.not_false] at r2936
              cases h2939 : (decide ((1000000000 : Int) < x2934.2)) with
              | true =>
                simp only [h2939, ↓reduceIte, Bool.false_eq_true] at r2936
                refine drawS_tail (by kernel_rfl) ?_
                have g85 := get_map e_api_Value h2935
                simp only [go_sem, ↓reduceIte, reduceCtorEq, nA, nB, nC, nD, nE, nF, nG, nH, iA, *]
                cases r2936
                dsimp only [St.on, Sum.elim_inr] at hc2876
                cases hc2876
                simp (maxDischargeDepth := 40) only [go_sem, ↓reduceIte, reduceCtorEq, nA, nB, nC, nD, nE, nF, nG, nH, iA, cast0, cast1, lA, lB, lC, lD, lE, mapV_nil, *]
              | false =>
                simp only [h2939, ↓reduceIte, Bool.false_eq_true] at r2936
                obtain ⟨x2940, h2941, r2942⟩ := bindS r2936
                clear r2936
                try dsimp only at r2942
                refine drawS_tail (by kernel_rfl) ?_
                have g86 := get_map e_api_Value h2935
                have g87 := get_map e_api_Coef h2941
                simp only [go_sem, ↓reduceIte, reduceCtorEq, nA, nB, nC, nD, nE, nF, nG, nH, iA, *]
                cases r2942
                refine hKhc2876 _ _ rfl ?_
                try dsimp only
                refine LeS.pick [some 0] rfl rfl ?_ ?_
                all_goals simp (maxDischargeDepth := 40) only [go_sem, ↓reduceIte, reduceCtorEq, nA, nB, nC, nD, nE, nF, nG, nH, iA, cast0, cast1, lA, lB, lC, lD, lE, mapV_nil, *]
    · clear r2781
      intro s2873 r2781 h2877 h2881 Khc2876
      dsimp only [Sum.elim_inl] at r2781
      simp only [go_sem, ↓reduceIte, reduceCtorEq, nA, nB, nC, nD, nE, nF, nG, nH, iA, *]
      cases r2781
      simp (maxDischargeDepth := 40) only [go_sem, ↓reduceIte, reduceCtorEq, nA, nB, nC, nD, nE, nF, nG, nH, iA, cast0, cast1, lA, lB, lC, lD, lE, mapV_nil, *]
  | false =>
    simp only [h2782, ↓reduceIte, Bool.false_eq_true] at r2781
    refine call_meets ((ref04_Valid_ok h2780).le ?_) (by first | (simp only [go_sem, ↓reduceIte, reduceCtorEq, nA, nB, nC, nD, nE, nF, nG, nH, iA, *] <;> rfl) | rfl) ?_
    · simp (maxDischargeDepth := 40) only [go_sem, ↓reduceIte, reduceCtorEq, nA, nB, nC, nD, nE, nF, nG, nH, iA, cast0, cast1, lA, lB, lC, lD, lE, mapV_nil, *]
    simp only [go_sem, ↓reduceIte, reduceCtorEq, nA, nB, nC, nD, nE, nF, nG, nH, iA, *]
    cases r2781
    simp (maxDischargeDepth := 40) only [go_sem, ↓reduceIte, reduceCtorEq, nA, nB, nC, nD, nE, nF, nG, nH, iA, cast0, cast1, lA, lB, lC, lD, lE, mapV_nil, *]

def ref07_Holds (a0 : List (Bool × (Int × (List (ByteArray × Int))))) (a1 : List (ByteArray × Int)) : Option Bool :=
  (forC (R := Bool) (a0.length) (() : Unit) fun k2976 s2975 =>
  (a0[k2976]?).bind fun x2984 =>
  (ref04_Eval x2984.2 a1).bind fun y2988 =>
  if (y2988.2 != (0 : Int)) then
    some (.rt false)
  else
    if (decide (y2988.1 < (0 : Int))) then
      some (.rt false)
    else
      if x2984.1 then
        if (y2988.1 != (0 : Int)) then
          some (.rt false)
        else
          some (.nx ())
      else
        some (.nx ())).bind (Sum.elim (fun s2975 =>
  some true) some)
set_option maxHeartbeats 2000000 in
theorem ref07_Holds_ok {a0 : List (Bool × (Int × (List (ByteArray × Int))))} {a1 : List (ByteArray × Int)} {r : Bool} (hr : ref07_Holds a0 a1 = some r) : Meets Try.prog 23 [.sl false 3 (a0.map e_api_Fact), .sl false 2 (a1.map e_api_Value)] (.c (.bool r)) := by
  unfold ref07_Holds at hr
  refine meetsV_of (X := true) Ty.mixed Try.func23 (by kernel_rfl) rfl (by kernel_rfl) (by simp) ?_; rw [Try.ntmps23, Try.results23]
  simp only [go_sem, ↓reduceIte, reduceCtorEq, nA, nB, nC, nD, nE, nF, nG, nH, iA, *]
  refine loop_for hr (fun k2976 s2975 => ⟨41, [(0, .sl false 3 (a0.map e_api_Fact)), (1, .sl false 2 (a1.map e_api_Value)), (5, .c (.int .i64 (k2976 : Int)))], []⟩) ?_ ?_ ?_
  · try dsimp only
    refine LeS.pick [] rfl rfl ?_ ?_
    all_goals simp (maxDischargeDepth := 40) only [go_sem, ↓reduceIte, reduceCtorEq, nA, nB, nC, nD, nE, nF, nG, nH, iA, cast0, cast1, lA, lB, lC, lD, lE, mapV_nil, *]
  · intro k2976 s2975 qhc2978 h2979 h2980 h2981 h2982 hq2977 hc2978 Khc2978 hKhc2978
    try dsimp only at hq2977
    obtain ⟨x2984, h2985, r2986⟩ := bindS hq2977
    clear hq2977
    try dsimp only at r2986
    have g88 := get_map e_api_Fact h2985
    simp only [go_sem, ↓reduceIte, reduceCtorEq, nA, nB, nC, nD, nE, nF, nG, nH, iA, *]
    obtain ⟨y2988, h2989, r2990⟩ := bindS r2986
    clear r2986
    try dsimp only at r2990
    cases h2991 : (y2988.2 != (0 : Int)) with
    | true =>
      simp only [h2991, ↓reduceIte, Bool.false_eq_true] at r2990
      refine call_meets ((ref04_Eval_ok h2989).le ?_) (by first | (simp only [go_sem, ↓reduceIte, reduceCtorEq, nA, nB, nC, nD, nE, nF, nG, nH, iA, *] <;> rfl) | rfl) ?_
      · simp (maxDischargeDepth := 40) only [go_sem, ↓reduceIte, reduceCtorEq, nA, nB, nC, nD, nE, nF, nG, nH, iA, cast0, cast1, lA, lB, lC, lD, lE, mapV_nil, *]
      simp only [go_sem, ↓reduceIte, reduceCtorEq, nA, nB, nC, nD, nE, nF, nG, nH, iA, *]
      cases r2990
      dsimp only [St.on, Sum.elim_inr] at hc2978
      cases hc2978
      simp (maxDischargeDepth := 40) only [go_sem, ↓reduceIte, reduceCtorEq, nA, nB, nC, nD, nE, nF, nG, nH, iA, cast0, cast1, lA, lB, lC, lD, lE, mapV_nil, *]
    | false =>
      simp only [h2991, ↓reduceIte, Bool.false_eq_true] at r2990
      cases h2992 : (decide (y2988.1 < (0 : Int))) with
      | true =>
        simp only [h2992, ↓reduceIte, Bool.false_eq_true] at r2990
        refine call_meets ((ref04_Eval_ok h2989).le ?_) (by first | (simp only [go_sem, ↓reduceIte, reduceCtorEq, nA, nB, nC, nD, nE, nF, nG, nH, iA, *] <;> rfl) | rfl) ?_
        · simp (maxDischargeDepth := 40) only [go_sem, ↓reduceIte, reduceCtorEq, nA, nB, nC, nD, nE, nF, nG, nH, iA, cast0, cast1, lA, lB, lC, lD, lE, mapV_nil, *]
        simp only [go_sem, ↓reduceIte, reduceCtorEq, nA, nB, nC, nD, nE, nF, nG, nH, iA, *]
        cases r2990
        dsimp only [St.on, Sum.elim_inr] at hc2978
        cases hc2978
        simp (maxDischargeDepth := 40) only [go_sem, ↓reduceIte, reduceCtorEq, nA, nB, nC, nD, nE, nF, nG, nH, iA, cast0, cast1, lA, lB, lC, lD, lE, mapV_nil, *]
      | false =>
        simp only [h2992, ↓reduceIte, Bool.false_eq_true] at r2990
        cases h2993 : x2984.1 with
        | true =>
          simp only [h2993, ↓reduceIte, Bool.false_eq_true] at r2990
          cases h2994 : (y2988.1 != (0 : Int)) with
          | true =>
            simp only [h2994, ↓reduceIte, Bool.false_eq_true] at r2990
            refine call_meets ((ref04_Eval_ok h2989).le ?_) (by first | (simp only [go_sem, ↓reduceIte, reduceCtorEq, nA, nB, nC, nD, nE, nF, nG, nH, iA, *] <;> rfl) | rfl) ?_
            · simp (maxDischargeDepth := 40) only [go_sem, ↓reduceIte, reduceCtorEq, nA, nB, nC, nD, nE, nF, nG, nH, iA, cast0, cast1, lA, lB, lC, lD, lE, mapV_nil, *]
            simp only [go_sem, ↓reduceIte, reduceCtorEq, nA, nB, nC, nD, nE, nF, nG, nH, iA, *]
            cases r2990
            dsimp only [St.on, Sum.elim_inr] at hc2978
            cases hc2978
            simp (maxDischargeDepth := 40) only [go_sem, ↓reduceIte, reduceCtorEq, nA, nB, nC, nD, nE, nF, nG, nH, iA, cast0, cast1, lA, lB, lC, lD, lE, mapV_nil, *]
          | false =>
            simp only [h2994, ↓reduceIte, Bool.false_eq_true] at r2990
            refine call_meets ((ref04_Eval_ok h2989).le ?_) (by first | (simp only [go_sem, ↓reduceIte, reduceCtorEq, nA, nB, nC, nD, nE, nF, nG, nH, iA, *] <;> rfl) | rfl) ?_
            · simp (maxDischargeDepth := 40) only [go_sem, ↓reduceIte, reduceCtorEq, nA, nB, nC, nD, nE, nF, nG, nH, iA, cast0, cast1, lA, lB, lC, lD, lE, mapV_nil, *]
            simp only [go_sem, ↓reduceIte, reduceCtorEq, nA, nB, nC, nD, nE, nF, nG, nH, iA, *]
            cases r2990
            refine hKhc2978 _ _ rfl ?_
            try dsimp only
            refine LeS.pick [] rfl rfl ?_ ?_
            all_goals simp (maxDischargeDepth := 40) only [go_sem, ↓reduceIte, reduceCtorEq, nA, nB, nC, nD, nE, nF, nG, nH, iA, cast0, cast1, lA, lB, lC, lD, lE, mapV_nil, *]
        | false =>
          simp only [h2993, ↓reduceIte, Bool.false_eq_true] at r2990
          refine call_meets ((ref04_Eval_ok h2989).le ?_) (by first | (simp only [go_sem, ↓reduceIte, reduceCtorEq, nA, nB, nC, nD, nE, nF, nG, nH, iA, *] <;> rfl) | rfl) ?_
          · simp (maxDischargeDepth := 40) only [go_sem, ↓reduceIte, reduceCtorEq, nA, nB, nC, nD, nE, nF, nG, nH, iA, cast0, cast1, lA, lB, lC, lD, lE, mapV_nil, *]
          simp only [go_sem, ↓reduceIte, reduceCtorEq, nA, nB, nC, nD, nE, nF, nG, nH, iA, *]
          cases r2990
          refine hKhc2978 _ _ rfl ?_
          try dsimp only
          refine LeS.pick [] rfl rfl ?_ ?_
          all_goals simp (maxDischargeDepth := 40) only [go_sem, ↓reduceIte, reduceCtorEq, nA, nB, nC, nD, nE, nF, nG, nH, iA, cast0, cast1, lA, lB, lC, lD, lE, mapV_nil, *]
  · clear hr
    intro s2975 hr h2979 h2983 Khc2978
    dsimp only [Sum.elim_inl] at hr
    simp only [go_sem, ↓reduceIte, reduceCtorEq, nA, nB, nC, nD, nE, nF, nG, nH, iA, *]
    cases hr
    simp (maxDischargeDepth := 40) only [go_sem, ↓reduceIte, reduceCtorEq, nA, nB, nC, nD, nE, nF, nG, nH, iA, cast0, cast1, lA, lB, lC, lD, lE, mapV_nil, *]

def ref07_Facts (a0 : List (Int × (List (ByteArray × Int)))) : Option ((List (Bool × (Int × (List (ByteArray × Int)))))) :=
  (forC (R := (List (Bool × (Int × (List (ByteArray × Int)))))) (a0.length) ([] : (List (Bool × (Int × (List (ByteArray × Int)))))) fun k3010 s3009 =>
  (a0[k3010]?).bind fun x3018 =>
  iffO (decide ((s3009.length + 1) * 40 ≤ 140737488355328))
    (some (.nx (s3009 ++ [(false, x3018)])))).bind (Sum.elim (fun s3009 =>
  some s3009) some)
set_option maxHeartbeats 2000000 in
theorem ref07_Facts_ok {a0 : List (Int × (List (ByteArray × Int)))} {r : (List (Bool × (Int × (List (ByteArray × Int)))))} (hr : ref07_Facts a0 = some r) : Meets Try.prog 30 [.sl false 2 (a0.map e_api_Linear)] (.sl false 3 (r.map e_api_Fact)) := by
  unfold ref07_Facts at hr
  refine meetsV_of (X := true) Ty.mixed Try.func30 (by kernel_rfl) rfl (by kernel_rfl) (by simp) ?_; rw [Try.ntmps30, Try.results30]
  simp only [go_sem, ↓reduceIte, reduceCtorEq, nA, nB, nC, nD, nE, nF, nG, nH, iA, *]
  refine loop_for hr (fun k3010 s3009 => ⟨20, [(0, .sl false 2 (a0.map e_api_Linear)), (3, .own 0 3 s3009.length), (4, .c (.int .i64 (k3010 : Int)))], [some (.row 51 3 (s3009.map e_api_Fact))]⟩) ?_ ?_ ?_
  · try dsimp only
    refine LeS.pick [none] rfl rfl ?_ ?_
    all_goals simp (maxDischargeDepth := 40) only [go_sem, ↓reduceIte, reduceCtorEq, nA, nB, nC, nD, nE, nF, nG, nH, iA, cast0, cast1, lA, lB, lC, lD, lE, mapV_nil, *]
  · intro k3010 s3009 qhc3012 h3013 h3014 h3015 h3016 hq3011 hc3012 Khc3012 hKhc3012
    try dsimp only at hq3011
    obtain ⟨x3018, h3019, r3020⟩ := bindS hq3011
    clear hq3011
    try dsimp only at r3020
    obtain ⟨h3022, r3023⟩ := iffO_some r3020
    clear r3020
    simp only [Bool.and_eq_true, decide_eq_true_eq] at h3022
    have g89 := get_map e_api_Linear h3019
    simp only [go_sem, ↓reduceIte, reduceCtorEq, nA, nB, nC, nD, nE, nF, nG, nH, iA, *]
    repeat refine ⟨by first | omega | (simp only [List.length_append, List.length_cons, List.length_nil, List.length_map, Nat.zero_add] at *; omega), ?_⟩
    cases r3023
    refine hKhc3012 _ _ rfl ?_
    try dsimp only
    refine LeS.pick [some 0] rfl rfl ?_ ?_
    all_goals simp (maxDischargeDepth := 40) only [go_sem, ↓reduceIte, reduceCtorEq, nA, nB, nC, nD, nE, nF, nG, nH, iA, cast0, cast1, lA, lB, lC, lD, lE, mapV_nil, *]
  · clear hr
    intro s3009 hr h3013 h3017 Khc3012
    dsimp only [Sum.elim_inl] at hr
    simp only [go_sem, ↓reduceIte, reduceCtorEq, nA, nB, nC, nD, nE, nF, nG, nH, iA, *]
    cases hr
    simp (maxDischargeDepth := 40) only [go_sem, ↓reduceIte, reduceCtorEq, nA, nB, nC, nD, nE, nF, nG, nH, iA, cast0, cast1, lA, lB, lC, lD, lE, mapV_nil, *]

def ref04_Few (a0 : Int × (List (ByteArray × Int))) (a1 : Int) : Option Bool :=
  (forC (R := Bool) (a0.2.length) (() : Unit) fun k3101 s3100 =>
  (a0.2[k3101]?).bind fun x3109 =>
  if (decide ((40 : Int) < (x3109.1.size : Int))) then
    some (.rt false)
  else
    some (.nx ())).bind (Sum.elim (fun s3100 =>
  some (decide (((a0.2.length : Nat) : Int) ≤ a1))) some)
set_option maxHeartbeats 2000000 in
theorem ref04_Few_ok {a0 : Int × (List (ByteArray × Int))} {a1 : Int} {r : Bool} (hr : ref04_Few a0 a1 = some r) : Meets Try.prog 25 [.agg [.c (.int .i64 a0.1), .sl false 2 (a0.2.map e_api_Coef)], .c (.int .i64 a1)] (.c (.bool r)) := by
  unfold ref04_Few at hr
  refine meetsV_of (X := true) Ty.mixed Try.func25 (by kernel_rfl) rfl (by kernel_rfl) (by simp) ?_; rw [Try.ntmps25, Try.results25]
  simp only [go_sem, ↓reduceIte, reduceCtorEq, nA, nB, nC, nD, nE, nF, nG, nH, iA, *]
  refine loop_for hr (fun k3101 s3100 => ⟨26, [(1, .c (.int .i64 a1)), (2, .ptr 0 0), (5, .c (.int .i64 (k3101 : Int)))], [some (.var 26 [.c (.int .i64 a0.1), .sl false 2 (a0.2.map e_api_Coef)])]⟩) ?_ ?_ ?_
  · try dsimp only
    refine LeS.pick [some 0] rfl rfl ?_ ?_
    all_goals simp (maxDischargeDepth := 40) only [go_sem, ↓reduceIte, reduceCtorEq, nA, nB, nC, nD, nE, nF, nG, nH, iA, cast0, cast1, lA, lB, lC, lD, lE, mapV_nil, *]
  · intro k3101 s3100 qhc3103 h3104 h3105 h3106 h3107 hq3102 hc3103 Khc3103 hKhc3103
    try dsimp only at hq3102
    obtain ⟨x3109, h3110, r3111⟩ := bindS hq3102
    clear hq3102
    try dsimp only at r3111
    cases h3113 : (decide ((40 : Int) < (x3109.1.size : Int))) with
    | true =>
      simp only [h3113, ↓reduceIte, Bool.false_eq_true] at r3111
      have g91 := get_map e_api_Coef h3110
      simp only [go_sem, ↓reduceIte, reduceCtorEq, nA, nB, nC, nD, nE, nF, nG, nH, iA, *]
      cases r3111
      dsimp only [St.on, Sum.elim_inr] at hc3103
      cases hc3103
      simp (maxDischargeDepth := 40) only [go_sem, ↓reduceIte, reduceCtorEq, nA, nB, nC, nD, nE, nF, nG, nH, iA, cast0, cast1, lA, lB, lC, lD, lE, mapV_nil, *]
    | false =>
      simp only [h3113, ↓reduceIte, Bool.false_eq_true] at r3111
      have g92 := get_map e_api_Coef h3110
      simp only [go_sem, ↓reduceIte, reduceCtorEq, nA, nB, nC, nD, nE, nF, nG, nH, iA, *]
      cases r3111
      refine hKhc3103 _ _ rfl ?_
      try dsimp only
      refine LeS.pick [some 0] rfl rfl ?_ ?_
      all_goals simp (maxDischargeDepth := 40) only [go_sem, ↓reduceIte, reduceCtorEq, nA, nB, nC, nD, nE, nF, nG, nH, iA, cast0, cast1, lA, lB, lC, lD, lE, mapV_nil, *]
  · clear hr
    intro s3100 hr h3104 h3108 Khc3103
    dsimp only [Sum.elim_inl] at hr
    simp only [go_sem, ↓reduceIte, reduceCtorEq, nA, nB, nC, nD, nE, nF, nG, nH, iA, *]
    cases hr
    simp (maxDischargeDepth := 40) only [go_sem, ↓reduceIte, reduceCtorEq, nA, nB, nC, nD, nE, nF, nG, nH, iA, cast0, cast1, lA, lB, lC, lD, lE, mapV_nil, *]

def ref07_Few (a0 : List (Bool × (Int × (List (ByteArray × Int))))) (a1 : Int) : Option Bool :=
  (forC (R := Bool) (a0.length) (() : Unit) fun k3129 s3128 =>
  (a0[k3129]?).bind fun x3137 =>
  (ref04_Few x3137.2 (8 : Int)).bind fun y3141 =>
  if y3141 then
    some (.nx ())
  else
    some (.rt false)).bind (Sum.elim (fun s3128 =>
  some (decide (((a0.length : Nat) : Int) ≤ a1))) some)
set_option maxHeartbeats 2000000 in
theorem ref07_Few_ok {a0 : List (Bool × (Int × (List (ByteArray × Int))))} {a1 : Int} {r : Bool} (hr : ref07_Few a0 a1 = some r) : Meets Try.prog 11 [.sl false 3 (a0.map e_api_Fact), .c (.int .i64 a1)] (.c (.bool r)) := by
  unfold ref07_Few at hr
  refine meetsV_of (X := true) Ty.mixed Try.func11 (by kernel_rfl) rfl (by kernel_rfl) (by simp) ?_; rw [Try.ntmps11, Try.results11]
  simp only [go_sem, ↓reduceIte, reduceCtorEq, nA, nB, nC, nD, nE, nF, nG, nH, iA, *]
  refine loop_for hr (fun k3129 s3128 => ⟨23, [(0, .sl false 3 (a0.map e_api_Fact)), (1, .c (.int .i64 a1)), (5, .c (.int .i64 (k3129 : Int)))], []⟩) ?_ ?_ ?_
  · try dsimp only
    refine LeS.pick [] rfl rfl ?_ ?_
    all_goals simp (maxDischargeDepth := 40) only [go_sem, ↓reduceIte, reduceCtorEq, nA, nB, nC, nD, nE, nF, nG, nH, iA, cast0, cast1, lA, lB, lC, lD, lE, mapV_nil, *]
  · intro k3129 s3128 qhc3131 h3132 h3133 h3134 h3135 hq3130 hc3131 Khc3131 hKhc3131
    try dsimp only at hq3130
    obtain ⟨x3137, h3138, r3139⟩ := bindS hq3130
    clear hq3130
    try dsimp only at r3139
    have g93 := get_map e_api_Fact h3138
    simp only [go_sem, ↓reduceIte, reduceCtorEq, nA, nB, nC, nD, nE, nF, nG, nH, iA, *]
    obtain ⟨y3141, h3142, r3143⟩ := bindS r3139
    clear r3139
    try dsimp only at r3143
    cases h3144 : y3141 with
    | true =>
      simp only [h3144, ↓reduceIte, Bool.false_eq_true] at r3143
      refine call_meets ((ref04_Few_ok h3142).le ?_) (by first | (simp only [go_sem, ↓reduceIte, reduceCtorEq, nA, nB, nC, nD, nE, nF, nG, nH, iA, *] <;> rfl) | rfl) ?_
      · simp (maxDischargeDepth := 40) only [go_sem, ↓reduceIte, reduceCtorEq, nA, nB, nC, nD, nE, nF, nG, nH, iA, cast0, cast1, lA, lB, lC, lD, lE, mapV_nil, *]
      simp only [go_sem, ↓reduceIte, reduceCtorEq, nA, nB, nC, nD, nE, nF, nG, nH, iA, *]
      cases r3143
      refine hKhc3131 _ _ rfl ?_
      try dsimp only
      refine LeS.pick [] rfl rfl ?_ ?_
      all_goals simp (maxDischargeDepth := 40) only [go_sem, ↓reduceIte, reduceCtorEq, nA, nB, nC, nD, nE, nF, nG, nH, iA, cast0, cast1, lA, lB, lC, lD, lE, mapV_nil, *]
    | false =>
      simp only [h3144, ↓reduceIte, Bool.false_eq_true] at r3143
      refine call_meets ((ref04_Few_ok h3142).le ?_) (by first | (simp only [go_sem, ↓reduceIte, reduceCtorEq, nA, nB, nC, nD, nE, nF, nG, nH, iA, *] <;> rfl) | rfl) ?_
      · simp (maxDischargeDepth := 40) only [go_sem, ↓reduceIte, reduceCtorEq, nA, nB, nC, nD, nE, nF, nG, nH, iA, cast0, cast1, lA, lB, lC, lD, lE, mapV_nil, *]
      simp only [go_sem, ↓reduceIte, reduceCtorEq, nA, nB, nC, nD, nE, nF, nG, nH, iA, *]
      cases r3143
      dsimp only [St.on, Sum.elim_inr] at hc3131
      cases hc3131
      simp (maxDischargeDepth := 40) only [go_sem, ↓reduceIte, reduceCtorEq, nA, nB, nC, nD, nE, nF, nG, nH, iA, cast0, cast1, lA, lB, lC, lD, lE, mapV_nil, *]
  · clear hr
    intro s3128 hr h3132 h3136 Khc3131
    dsimp only [Sum.elim_inl] at hr
    simp only [go_sem, ↓reduceIte, reduceCtorEq, nA, nB, nC, nD, nE, nF, nG, nH, iA, *]
    cases hr
    simp (maxDischargeDepth := 40) only [go_sem, ↓reduceIte, reduceCtorEq, nA, nB, nC, nD, nE, nF, nG, nH, iA, cast0, cast1, lA, lB, lC, lD, lE, mapV_nil, *]

def ref07_Small : Nat → T_api_Cert → Int → Option Bool
  | 0, _, _ => none
  | fuel + 1, a0, a1 =>
  if (decide ((60 : Int) < ((a0.f1.length : Nat) : Int))) then
  some false
else
  (ref04_Few a0.f2 (8 : Int)).bind fun y3158 =>
  if y3158 then
    if (decide (a1 < (1 : Int))) then
      some false
    else
      if (decide (a1 < ((a0.f3.length : Nat) : Int))) then
        some false
      else
        (forC (R := Bool) (a0.f3.length) (a1 : Int) fun k3191 s3190 =>
          (a0.f3[k3191]?).bind fun x3199 =>
          (ref07_Small fuel x3199 (IntKind.i64.wrap (s3190 - (1 : Int)))).bind fun y3203 =>
          if y3203 then
            (ref07_Size 4611686018427387904 x3199).bind fun y3207 =>
            some (.nx (IntKind.i64.wrap (s3190 - y3207)))
          else
            some (.rt false)).bind (Sum.elim (fun s3190 =>
          some true) some)
  else
    some false
set_option maxHeartbeats 2000000 in
theorem ref07_Small_all (fuel : Nat) : ∀ {a0 : T_api_Cert} {a1 : Int} {r : Bool}, ref07_Small fuel a0 a1 = some r → Meets Try.prog 12 [.agg [.c (.int .i64 a0.f0), .sl false 1 (a0.f1.map e_int), .c (.int .i64 a0.f2.1), .sl false 2 (a0.f2.2.map e_api_Coef), .sl false 5 (a0.f3.map e_api_Cert)], .c (.int .i64 a1)] (.c (.bool r)) := by
  induction fuel with
  | zero =>
    · intro a0 a1 r hr
      rw [ref07_Small] at hr
      cases hr
  | succ fuel ih =>
    have ih_ref07_Small := @ih
    · intro a0 a1 r hr
      rw [ref07_Small] at hr
      refine meetsV_of (X := true) Ty.mixed Try.func12 (by kernel_rfl) rfl (by kernel_rfl) (by simp) ?_; rw [Try.ntmps12, Try.results12]
      cases h3157 : (decide ((60 : Int) < ((a0.f1.length : Nat) : Int))) with
      | true =>
        simp only [h3157, ↓reduceIte, Bool.false_eq_true] at hr
        simp only [go_sem, ↓reduceIte, reduceCtorEq, nA, nB, nC, nD, nE, nF, nG, nH, iA, *]
        cases hr
        simp (maxDischargeDepth := 40) only [go_sem, ↓reduceIte, reduceCtorEq, nA, nB, nC, nD, nE, nF, nG, nH, iA, cast0, cast1, lA, lB, lC, lD, lE, mapV_nil, *]
      | false =>
        simp only [h3157, ↓reduceIte, Bool.false_eq_true] at hr
        simp only [go_sem, ↓reduceIte, reduceCtorEq, nA, nB, nC, nD, nE, nF, nG, nH, iA, *]
        obtain ⟨y3158, h3159, r3160⟩ := bindS hr
        clear hr
        try dsimp only at r3160
        cases h3161 : y3158 with
        | true =>
          simp only [h3161, ↓reduceIte, Bool.false_eq_true] at r3160
          cases h3162 : (decide (a1 < (1 : Int))) with
          | true =>
            simp only [h3162, ↓reduceIte, Bool.false_eq_true] at r3160
            refine call_meets ((ref04_Few_ok h3159).le ?_) (by first | (simp only [go_sem, ↓reduceIte, reduceCtorEq, nA, nB, nC, nD, nE, nF, nG, nH, iA, *] <;> rfl) | rfl) ?_
            · simp (maxDischargeDepth := 40) only [go_sem, ↓reduceIte, reduceCtorEq, nA, nB, nC, nD, nE, nF, nG, nH, iA, cast0, cast1, lA, lB, lC, lD, lE, mapV_nil, *]
            simp only [go_sem, ↓reduceIte, reduceCtorEq, nA, nB, nC, nD, nE, nF, nG, nH, iA, *]
            cases r3160
            simp (maxDischargeDepth := 40) only [go_sem, ↓reduceIte, reduceCtorEq, nA, nB, nC, nD, nE, nF, nG, nH, iA, cast0, cast1, lA, lB, lC, lD, lE, mapV_nil, *]
          | false =>
            simp only [h3162, ↓reduceIte, Bool.false_eq_true] at r3160
            cases h3163 : (decide (a1 < ((a0.f3.length : Nat) : Int))) with
            | true =>
              simp only [h3163, ↓reduceIte, Bool.false_eq_true] at r3160
              refine call_meets ((ref04_Few_ok h3159).le ?_) (by first | (simp only [go_sem, ↓reduceIte, reduceCtorEq, nA, nB, nC, nD, nE, nF, nG, nH, iA, *] <;> rfl) | rfl) ?_
              · simp (maxDischargeDepth := 40) only [go_sem, ↓reduceIte, reduceCtorEq, nA, nB, nC, nD, nE, nF, nG, nH, iA, cast0, cast1, lA, lB, lC, lD, lE, mapV_nil, *]
              simp only [go_sem, ↓reduceIte, reduceCtorEq, nA, nB, nC, nD, nE, nF, nG, nH, iA, *]
              cases r3160
              simp (maxDischargeDepth := 40) only [go_sem, ↓reduceIte, reduceCtorEq, nA, nB, nC, nD, nE, nF, nG, nH, iA, cast0, cast1, lA, lB, lC, lD, lE, mapV_nil, *]
            | false =>
              simp only [h3163, ↓reduceIte, Bool.false_eq_true] at r3160
              refine call_meets ((ref04_Few_ok h3159).le ?_) (by first | (simp only [go_sem, ↓reduceIte, reduceCtorEq, nA, nB, nC, nD, nE, nF, nG, nH, iA, *] <;> rfl) | rfl) ?_
              · simp (maxDischargeDepth := 40) only [go_sem, ↓reduceIte, reduceCtorEq, nA, nB, nC, nD, nE, nF, nG, nH, iA, cast0, cast1, lA, lB, lC, lD, lE, mapV_nil, *]
              simp only [go_sem, ↓reduceIte, reduceCtorEq, nA, nB, nC, nD, nE, nF, nG, nH, iA, *]
              refine loop_for r3160 (fun k3191 s3190 => ⟨51, [(1, .c (.int .i64 s3190)), (2, .ptr 0 0), (5, .c (.int .i64 (k3191 : Int)))], [some (.var 29 [.c (.int .i64 a0.f0), .sl false 1 (a0.f1.map e_int), .c (.int .i64 a0.f2.1), .sl false 2 (a0.f2.2.map e_api_Coef), .sl false 5 (a0.f3.map e_api_Cert)])]⟩) ?_ ?_ ?_
              · try dsimp only
                refine LeS.pick [some 0] rfl rfl ?_ ?_
                all_goals simp (maxDischargeDepth := 40) only [go_sem, ↓reduceIte, reduceCtorEq, nA, nB, nC, nD, nE, nF, nG, nH, iA, cast0, cast1, lA, lB, lC, lD, lE, mapV_nil, *]
              · intro k3191 s3190 qhc3193 h3194 h3195 h3196 h3197 hq3192 hc3193 Khc3193 hKhc3193
                try dsimp only at hq3192
                obtain ⟨x3199, h3200, r3201⟩ := bindS hq3192
                clear hq3192
                try dsimp only at r3201
                have g94 := get_map e_api_Cert h3200
                simp only [go_sem, ↓reduceIte, reduceCtorEq, nA, nB, nC, nD, nE, nF, nG, nH, iA, *]
                obtain ⟨y3203, h3204, r3205⟩ := bindS r3201
                clear r3201
                try dsimp only at r3205
                cases h3206 : y3203 with
                | true =>
                  simp only [h3206, ↓reduceIte, Bool.false_eq_true] at r3205
                  refine call_meets ((ih_ref07_Small h3204).le ?_) (by first | (simp only [go_sem, ↓reduceIte, reduceCtorEq, nA, nB, nC, nD, nE, nF, nG, nH, iA, *] <;> rfl) | rfl) ?_
                  · simp (maxDischargeDepth := 40) only [go_sem, ↓reduceIte, reduceCtorEq, nA, nB, nC, nD, nE, nF, nG, nH, iA, cast0, cast1, lA, lB, lC, lD, lE, mapV_nil, *]
                  simp only [go_sem, ↓reduceIte, reduceCtorEq, nA, nB, nC, nD, nE, nF, nG, nH, iA, *]
                  obtain ⟨y3207, h3208, r3209⟩ := bindS r3205
                  clear r3205
                  try dsimp only at r3209
                  refine call_meets ((ref07_Size_ok h3208).le ?_) (by first | (simp only [go_sem, ↓reduceIte, reduceCtorEq, nA, nB, nC, nD, nE, nF, nG, nH, iA, *] <;> rfl) | rfl) ?_
                  · simp (maxDischargeDepth := 40) only [go_sem, ↓reduceIte, reduceCtorEq, nA, nB, nC, nD, nE, nF, nG, nH, iA, cast0, cast1, lA, lB, lC, lD, lE, mapV_nil, *]
                  simp only [go_sem, ↓reduceIte, reduceCtorEq, nA, nB, nC, nD, nE, nF, nG, nH, iA, *]
                  cases r3209
                  refine hKhc3193 _ _ rfl ?_
                  try dsimp only
                  refine LeS.pick [some 0] rfl rfl ?_ ?_
                  all_goals simp (maxDischargeDepth := 40) only [go_sem, ↓reduceIte, reduceCtorEq, nA, nB, nC, nD, nE, nF, nG, nH, iA, cast0, cast1, lA, lB, lC, lD, lE, mapV_nil, *]
                | false =>
                  simp only [h3206, ↓reduceIte, Bool.false_eq_true] at r3205
                  refine call_meets ((ih_ref07_Small h3204).le ?_) (by first | (simp only [go_sem, ↓reduceIte, reduceCtorEq, nA, nB, nC, nD, nE, nF, nG, nH, iA, *] <;> rfl) | rfl) ?_
                  · simp (maxDischargeDepth := 40) only [go_sem, ↓reduceIte, reduceCtorEq, nA, nB, nC, nD, nE, nF, nG, nH, iA, cast0, cast1, lA, lB, lC, lD, lE, mapV_nil, *]
                  simp only [go_sem, ↓reduceIte, reduceCtorEq, nA, nB, nC, nD, nE, nF, nG, nH, iA, *]
                  cases r3205
                  dsimp only [St.on, Sum.elim_inr] at hc3193
                  cases hc3193
                  simp (maxDischargeDepth := 40) only [go_sem, ↓reduceIte, reduceCtorEq, nA, nB, nC, nD, nE, nF, nG, nH, iA, cast0, cast1, lA, lB, lC, lD, lE, mapV_nil, *]
              · clear r3160
                intro s3190 r3160 h3194 h3198 Khc3193
                dsimp only [Sum.elim_inl] at r3160
                simp only [go_sem, ↓reduceIte, reduceCtorEq, nA, nB, nC, nD, nE, nF, nG, nH, iA, *]
                cases r3160
                simp (maxDischargeDepth := 40) only [go_sem, ↓reduceIte, reduceCtorEq, nA, nB, nC, nD, nE, nF, nG, nH, iA, cast0, cast1, lA, lB, lC, lD, lE, mapV_nil, *]
        | false =>
          simp only [h3161, ↓reduceIte, Bool.false_eq_true] at r3160
          refine call_meets ((ref04_Few_ok h3159).le ?_) (by first | (simp only [go_sem, ↓reduceIte, reduceCtorEq, nA, nB, nC, nD, nE, nF, nG, nH, iA, *] <;> rfl) | rfl) ?_
          · simp (maxDischargeDepth := 40) only [go_sem, ↓reduceIte, reduceCtorEq, nA, nB, nC, nD, nE, nF, nG, nH, iA, cast0, cast1, lA, lB, lC, lD, lE, mapV_nil, *]
          simp only [go_sem, ↓reduceIte, reduceCtorEq, nA, nB, nC, nD, nE, nF, nG, nH, iA, *]
          cases r3160
          simp (maxDischargeDepth := 40) only [go_sem, ↓reduceIte, reduceCtorEq, nA, nB, nC, nD, nE, nF, nG, nH, iA, cast0, cast1, lA, lB, lC, lD, lE, mapV_nil, *]
theorem ref07_Small_ok {fuel : Nat} : ∀ {a0 : T_api_Cert} {a1 : Int} {r : Bool}, ref07_Small fuel a0 a1 = some r → Meets Try.prog 12 [.agg [.c (.int .i64 a0.f0), .sl false 1 (a0.f1.map e_int), .c (.int .i64 a0.f2.1), .sl false 2 (a0.f2.2.map e_api_Coef), .sl false 5 (a0.f3.map e_api_Cert)], .c (.int .i64 a1)] (.c (.bool r)) := ref07_Small_all fuel

end Go.Proofs.Ytgjamefpphhobaa.D7R
