/- Functions of the program as functions of values. -/
import Derived.Test.YtgjamefpphhobaaKS
import Derived.Test.YtgjamefpphhobaaEngD
import Derived.Test.YtgjamefpphhobaaTy
import Derived.Test.YtgjamefpphhobaaBase
import Derived.Test.YtgjamefpphhobaaGs
namespace Go.Proofs.Ytgjamefpphhobaa.D7P
open Go.Proofs.Ytgjamefpphhobaa.KS
open Go Go.Proofs.Ytgjamefpphhobaa.Eng Go.Proofs.Ytgjamefpphhobaa Go.RowKit
set_option linter.unusedSimpArgs false
set_option linter.unusedVariables false
set_option linter.unusedSectionVars false
set_option maxRecDepth 100000
open Nat renaming reduceAdd → nA, reduceMul → nB, reduceLT → nC, reduceLeDiff → nD, reduceEqDiff → nE, reduceSub → nF, reduceMod → nG, reduceDiv → nH
open Int renaming reduceToNat → iA
open List renaming map_append → lA, map_set → lB, map_replicate → lC, map_take → lD, map_drop → lE
attribute [local go_sem] List.length_map take_map_self eqB_is lessB_is List.length_append List.length_replicate List.length_set List.take_of_length_le

abbrev e_int (x : Int) : List AV := [.c (.int .i64 x)]
abbrev e_api_Coef (x : ByteArray × Int) : List AV := [.c (.string x.1), .c (.int .i64 x.2)]
structure T_api_Cert where
  f0 : Int
  f1 : List Int
  f2 : Int × (List (ByteArray × Int))
  f3 : List T_api_Cert
mutual
def e_api_Cert : T_api_Cert → List AV
  | ⟨a0, a1, a2, a3⟩ => [.c (.int .i64 a0), .sl false 1 (a1.map e_int), .c (.int .i64 a2.1), .sl false 2 (a2.2.map e_api_Coef), .sl false 5 (es_api_Cert a3)]
def es_api_Cert : List T_api_Cert → List (List AV)
  | [] => []
  | x :: l => e_api_Cert x :: es_api_Cert l
end
theorem es_api_Cert_is : ∀ l, es_api_Cert l = l.map e_api_Cert
  | [] => by simp [es_api_Cert]
  | x :: l => by simp [es_api_Cert, es_api_Cert_is l]
theorem e_api_Cert_is (x : T_api_Cert) : e_api_Cert x = [.c (.int .i64 x.f0), .sl false 1 (x.f1.map e_int), .c (.int .i64 x.f2.1), .sl false 2 (x.f2.2.map e_api_Coef), .sl false 5 (x.f3.map e_api_Cert)] := by
  cases x
  simp [e_api_Cert, es_api_Cert_is]
attribute [local go_sem] e_api_Cert_is

abbrev e_api_Fact (x : Bool × (Int × (List (ByteArray × Int)))) : List AV := [.c (.bool x.1), .c (.int .i64 x.2.1), .sl false 2 (x.2.2.map e_api_Coef)]
abbrev e_string (x : ByteArray) : List AV := [.c (.string x)]
abbrev e_api_Value (x : ByteArray × Int) : List AV := [.c (.string x.1), .c (.int .i64 x.2)]
abbrev e_api_Linear (x : Int × (List (ByteArray × Int))) : List AV := [.c (.int .i64 x.1), .sl false 2 (x.2.map e_api_Coef)]

def linear_fits (a0 : Int) : Option Bool :=
  if (decide ((-1000000 : Int) ≤ a0)) then
  some (decide (a0 ≤ (1000000 : Int)))
else
  some false
set_option maxHeartbeats 2000000 in
theorem linear_fits_ok {a0 : Int} {r : Bool} (hr : linear_fits a0 = some r) : Meets Try.prog 75 [.c (.int .i64 a0)] (.c (.bool r)) := by
  unfold linear_fits at hr
  refine meetsV_of (X := true) Ty.mixed Try.func75 (by kernel_rfl) rfl (by kernel_rfl) (by simp) ?_; rw [Try.ntmps75, Try.results75]
  cases h6 : (decide ((-1000000 : Int) ≤ a0)) with
  | true =>
    simp only [h6, ↓reduceIte, Bool.false_eq_true] at hr
    simp only [go_sem, ↓reduceIte, reduceCtorEq, nA, nB, nC, nD, nE, nF, nG, nH, iA, *]
    cases hr
    simp (maxDischargeDepth := 40) only [go_sem, ↓reduceIte, reduceCtorEq, nA, nB, nC, nD, nE, nF, nG, nH, iA, cast0, cast1, lA, lB, lC, lD, lE, mapV_nil, *]
  | false =>
    simp only [h6, ↓reduceIte, Bool.false_eq_true] at hr
    simp only [go_sem, ↓reduceIte, reduceCtorEq, nA, nB, nC, nD, nE, nF, nG, nH, iA, *]
    cases hr
    simp (maxDischargeDepth := 40) only [go_sem, ↓reduceIte, reduceCtorEq, nA, nB, nC, nD, nE, nF, nG, nH, iA, cast0, cast1, lA, lB, lC, lD, lE, mapV_nil, *]

def linear_isDigit (a0 : Int) : Option Bool :=
  if (decide ((48 : Int) ≤ a0)) then
  some (decide (a0 ≤ (57 : Int)))
else
  some false
set_option maxHeartbeats 2000000 in
theorem linear_isDigit_ok {a0 : Int} {r : Bool} (hr : linear_isDigit a0 = some r) : Meets Try.prog 92 [.c (.int .u8 a0)] (.c (.bool r)) := by
  unfold linear_isDigit at hr
  refine meetsV_of (X := true) Ty.mixed Try.func92 (by kernel_rfl) rfl (by kernel_rfl) (by simp) ?_; rw [Try.ntmps92, Try.results92]
  cases h39 : (decide ((48 : Int) ≤ a0)) with
  | true =>
    simp only [h39, ↓reduceIte, Bool.false_eq_true] at hr
    simp only [go_sem, ↓reduceIte, reduceCtorEq, nA, nB, nC, nD, nE, nF, nG, nH, iA, *]
    cases hr
    simp (maxDischargeDepth := 40) only [go_sem, ↓reduceIte, reduceCtorEq, nA, nB, nC, nD, nE, nF, nG, nH, iA, cast0, cast1, lA, lB, lC, lD, lE, mapV_nil, *]
  | false =>
    simp only [h39, ↓reduceIte, Bool.false_eq_true] at hr
    simp only [go_sem, ↓reduceIte, reduceCtorEq, nA, nB, nC, nD, nE, nF, nG, nH, iA, *]
    cases hr
    simp (maxDischargeDepth := 40) only [go_sem, ↓reduceIte, reduceCtorEq, nA, nB, nC, nD, nE, nF, nG, nH, iA, cast0, cast1, lA, lB, lC, lD, lE, mapV_nil, *]

def linear_span__linear_isDigit (a0 : ByteArray) (a1 : Int) : Option Int :=
  (whlC (R := Int) (a1 : Int) fun s62 =>
  if (decide (s62 < (a0.size : Int))) then
    (idxB a0 s62).bind fun x72 =>
    (linear_isDigit (x72.toNat : Int)).bind fun y76 =>
    if y76 then
      some (.nx (IntKind.i64.wrap (s62 + (1 : Int))))
    else
      some (.br s62)
  else
    some (.br s62)).bind (Sum.elim (fun s62 =>
  some s62) some)
set_option maxHeartbeats 2000000 in
theorem linear_span__linear_isDigit_ok {a0 : ByteArray} {a1 : Int} {r : Int} (hr : linear_span__linear_isDigit a0 a1 = some r) : Meets Try.prog 91 [.c (.string a0), .c (.int .i64 a1), .fn 92 []] (.c (.int .i64 r)) := by
  unfold linear_span__linear_isDigit at hr
  refine meetsV_of (X := true) Ty.mixed Try.func91 (by kernel_rfl) rfl (by kernel_rfl) (by simp) ?_; rw [Try.ntmps91, Try.results91]
  simp only [go_sem, ↓reduceIte, reduceCtorEq, nA, nB, nC, nD, nE, nF, nG, nH, iA, *]
  refine loop_whl hr (fun s62 => ⟨21, [(0, .c (.string a0)), (1, .c (.int .i64 s62)), (2, .fn 92 [])], []⟩) ?_ ?_
  · try dsimp only
    refine LeS.pick [] rfl rfl ?_ ?_
    all_goals simp (maxDischargeDepth := 40) only [go_sem, ↓reduceIte, reduceCtorEq, nA, nB, nC, nD, nE, nF, nG, nH, iA, cast0, cast1, lA, lB, lC, lD, lE, mapV_nil, *]
  · intro s62 qhc65 hq64 hc65 Khc65 hKhc65
    try dsimp only at hq64
    cases h71 : (decide (s62 < (a0.size : Int))) with
    | true =>
      simp only [h71, ↓reduceIte, Bool.false_eq_true] at hq64
      obtain ⟨x72, h73, r74⟩ := bindS hq64
      clear hq64
      try dsimp only at r74
      obtain ⟨h75, h73⟩ := idxB_some h73
      simp only [go_sem, ↓reduceIte, reduceCtorEq, nA, nB, nC, nD, nE, nF, nG, nH, iA, *]
      obtain ⟨y76, h77, r78⟩ := bindS r74
      clear r74
      try dsimp only at r78
      cases h79 : y76 with
      | true =>
        simp only [h79, ↓reduceIte, Bool.false_eq_true] at r78
        refine call_meets ((linear_isDigit_ok h77).le ?_) (by first | (simp only [go_sem, ↓reduceIte, reduceCtorEq, nA, nB, nC, nD, nE, nF, nG, nH, iA, *] <;> rfl) | rfl) ?_
        · simp (maxDischargeDepth := 40) only [go_sem, ↓reduceIte, reduceCtorEq, nA, nB, nC, nD, nE, nF, nG, nH, iA, cast0, cast1, lA, lB, lC, lD, lE, mapV_nil, *]
        simp only [go_sem, ↓reduceIte, reduceCtorEq, nA, nB, nC, nD, nE, nF, nG, nH, iA, *]
        cases r78
        refine hKhc65 _ _ rfl ?_
        try dsimp only
        refine LeS.pick [] rfl rfl ?_ ?_
        all_goals simp (maxDischargeDepth := 40) only [go_sem, ↓reduceIte, reduceCtorEq, nA, nB, nC, nD, nE, nF, nG, nH, iA, cast0, cast1, lA, lB, lC, lD, lE, mapV_nil, *]
      | false =>
        simp only [h79, ↓reduceIte, Bool.false_eq_true] at r78
        cases r78
        dsimp only [St.on, Sum.elim_inl] at hc65
        refine call_meets ((linear_isDigit_ok h77).le ?_) (by first | (simp only [go_sem, ↓reduceIte, reduceCtorEq, nA, nB, nC, nD, nE, nF, nG, nH, iA, *] <;> rfl) | rfl) ?_
        · simp (maxDischargeDepth := 40) only [go_sem, ↓reduceIte, reduceCtorEq, nA, nB, nC, nD, nE, nF, nG, nH, iA, cast0, cast1, lA, lB, lC, lD, lE, mapV_nil, *]
        simp only [go_sem, ↓reduceIte, reduceCtorEq, nA, nB, nC, nD, nE, nF, nG, nH, iA, *]
        cases hc65
        simp (maxDischargeDepth := 40) only [go_sem, ↓reduceIte, reduceCtorEq, nA, nB, nC, nD, nE, nF, nG, nH, iA, cast0, cast1, lA, lB, lC, lD, lE, mapV_nil, *]
    | false =>
      simp only [h71, ↓reduceIte, Bool.false_eq_true] at hq64
      cases hq64
      dsimp only [St.on, Sum.elim_inl] at hc65
      simp only [go_sem, ↓reduceIte, reduceCtorEq, nA, nB, nC, nD, nE, nF, nG, nH, iA, *]
      cases hc65
      simp (maxDischargeDepth := 40) only [go_sem, ↓reduceIte, reduceCtorEq, nA, nB, nC, nD, nE, nF, nG, nH, iA, cast0, cast1, lA, lB, lC, lD, lE, mapV_nil, *]

def linear_isLetter (a0 : Int) : Option Bool :=
  if (decide ((97 : Int) ≤ a0)) then
  some (decide (a0 ≤ (122 : Int)))
else
  some false
set_option maxHeartbeats 2000000 in
theorem linear_isLetter_ok {a0 : Int} {r : Bool} (hr : linear_isLetter a0 = some r) : Meets Try.prog 93 [.c (.int .u8 a0)] (.c (.bool r)) := by
  unfold linear_isLetter at hr
  refine meetsV_of (X := true) Ty.mixed Try.func93 (by kernel_rfl) rfl (by kernel_rfl) (by simp) ?_; rw [Try.ntmps93, Try.results93]
  cases h85 : (decide ((97 : Int) ≤ a0)) with
  | true =>
    simp only [h85, ↓reduceIte, Bool.false_eq_true] at hr
    simp only [go_sem, ↓reduceIte, reduceCtorEq, nA, nB, nC, nD, nE, nF, nG, nH, iA, *]
    cases hr
    simp (maxDischargeDepth := 40) only [go_sem, ↓reduceIte, reduceCtorEq, nA, nB, nC, nD, nE, nF, nG, nH, iA, cast0, cast1, lA, lB, lC, lD, lE, mapV_nil, *]
  | false =>
    simp only [h85, ↓reduceIte, Bool.false_eq_true] at hr
    simp only [go_sem, ↓reduceIte, reduceCtorEq, nA, nB, nC, nD, nE, nF, nG, nH, iA, *]
    cases hr
    simp (maxDischargeDepth := 40) only [go_sem, ↓reduceIte, reduceCtorEq, nA, nB, nC, nD, nE, nF, nG, nH, iA, cast0, cast1, lA, lB, lC, lD, lE, mapV_nil, *]

def linear_isNameByte (a0 : Int) : Option Bool :=
  (linear_isLetter a0).bind fun y95 =>
if y95 then
  some true
else
  (linear_isDigit a0).bind fun y99 =>
  some y99
set_option maxHeartbeats 2000000 in
theorem linear_isNameByte_ok {a0 : Int} {r : Bool} (hr : linear_isNameByte a0 = some r) : Meets Try.prog 94 [.c (.int .u8 a0)] (.c (.bool r)) := by
  unfold linear_isNameByte at hr
  refine meetsV_of (X := true) Ty.mixed Try.func94 (by kernel_rfl) rfl (by kernel_rfl) (by simp) ?_; rw [Try.ntmps94, Try.results94]
  simp only [go_sem, ↓reduceIte, reduceCtorEq, nA, nB, nC, nD, nE, nF, nG, nH, iA, *]
  obtain ⟨y95, h96, r97⟩ := bindS hr
  clear hr
  try dsimp only at r97
  cases h98 : y95 with
  | true =>
    simp only [h98, ↓reduceIte, Bool.false_eq_true] at r97
    refine call_meets ((linear_isLetter_ok h96).le ?_) (by first | (simp only [go_sem, ↓reduceIte, reduceCtorEq, nA, nB, nC, nD, nE, nF, nG, nH, iA, *] <;> rfl) | rfl) ?_
    · simp (maxDischargeDepth := 40) only [go_sem, ↓reduceIte, reduceCtorEq, nA, nB, nC, nD, nE, nF, nG, nH, iA, cast0, cast1, lA, lB, lC, lD, lE, mapV_nil, *]
    simp only [go_sem, ↓reduceIte, reduceCtorEq, nA, nB, nC, nD, nE, nF, nG, nH, iA, *]
    cases r97
    simp (maxDischargeDepth := 40) only [go_sem, ↓reduceIte, reduceCtorEq, nA, nB, nC, nD, nE, nF, nG, nH, iA, cast0, cast1, lA, lB, lC, lD, lE, mapV_nil, *]
  | false =>
    simp only [h98, ↓reduceIte, Bool.false_eq_true] at r97
    refine call_meets ((linear_isLetter_ok h96).le ?_) (by first | (simp only [go_sem, ↓reduceIte, reduceCtorEq, nA, nB, nC, nD, nE, nF, nG, nH, iA, *] <;> rfl) | rfl) ?_
    · simp (maxDischargeDepth := 40) only [go_sem, ↓reduceIte, reduceCtorEq, nA, nB, nC, nD, nE, nF, nG, nH, iA, cast0, cast1, lA, lB, lC, lD, lE, mapV_nil, *]
    simp only [go_sem, ↓reduceIte, reduceCtorEq, nA, nB, nC, nD, nE, nF, nG, nH, iA, *]
    obtain ⟨y99, h100, r101⟩ := bindS r97
    clear r97
    try dsimp only at r101
    refine call_meets ((linear_isDigit_ok h100).le ?_) (by first | (simp only [go_sem, ↓reduceIte, reduceCtorEq, nA, nB, nC, nD, nE, nF, nG, nH, iA, *] <;> rfl) | rfl) ?_
    · simp (maxDischargeDepth := 40) only [go_sem, ↓reduceIte, reduceCtorEq, nA, nB, nC, nD, nE, nF, nG, nH, iA, cast0, cast1, lA, lB, lC, lD, lE, mapV_nil, *]
    simp only [go_sem, ↓reduceIte, reduceCtorEq, nA, nB, nC, nD, nE, nF, nG, nH, iA, *]
    cases r101
    simp (maxDischargeDepth := 40) only [go_sem, ↓reduceIte, reduceCtorEq, nA, nB, nC, nD, nE, nF, nG, nH, iA, cast0, cast1, lA, lB, lC, lD, lE, mapV_nil, *]

def linear_span__linear_isNameByte (a0 : ByteArray) (a1 : Int) : Option Int :=
  (whlC (R := Int) (a1 : Int) fun s124 =>
  if (decide (s124 < (a0.size : Int))) then
    (idxB a0 s124).bind fun x134 =>
    (linear_isNameByte (x134.toNat : Int)).bind fun y138 =>
    if y138 then
      some (.nx (IntKind.i64.wrap (s124 + (1 : Int))))
    else
      some (.br s124)
  else
    some (.br s124)).bind (Sum.elim (fun s124 =>
  some s124) some)
set_option maxHeartbeats 2000000 in
theorem linear_span__linear_isNameByte_ok {a0 : ByteArray} {a1 : Int} {r : Int} (hr : linear_span__linear_isNameByte a0 a1 = some r) : Meets Try.prog 91 [.c (.string a0), .c (.int .i64 a1), .fn 94 []] (.c (.int .i64 r)) := by
  unfold linear_span__linear_isNameByte at hr
  refine meetsV_of (X := true) Ty.mixed Try.func91 (by kernel_rfl) rfl (by kernel_rfl) (by simp) ?_; rw [Try.ntmps91, Try.results91]
  simp only [go_sem, ↓reduceIte, reduceCtorEq, nA, nB, nC, nD, nE, nF, nG, nH, iA, *]
  refine loop_whl hr (fun s124 => ⟨21, [(0, .c (.string a0)), (1, .c (.int .i64 s124)), (2, .fn 94 [])], []⟩) ?_ ?_
  · try dsimp only
    refine LeS.pick [] rfl rfl ?_ ?_
    all_goals simp (maxDischargeDepth := 40) only [go_sem, ↓reduceIte, reduceCtorEq, nA, nB, nC, nD, nE, nF, nG, nH, iA, cast0, cast1, lA, lB, lC, lD, lE, mapV_nil, *]
  · intro s124 qhc127 hq126 hc127 Khc127 hKhc127
    try dsimp only at hq126
    cases h133 : (decide (s124 < (a0.size : Int))) with
    | true =>
      simp only [h133, ↓reduceIte, Bool.false_eq_true] at hq126
      obtain ⟨x134, h135, r136⟩ := bindS hq126
      clear hq126
      try dsimp only at r136
      obtain ⟨h137, h135⟩ := idxB_some h135
      simp only [go_sem, ↓reduceIte, reduceCtorEq, nA, nB, nC, nD, nE, nF, nG, nH, iA, *]
      obtain ⟨y138, h139, r140⟩ := bindS r136
      clear r136
      try dsimp only at r140
      cases h141 : y138 with
      | true =>
        simp only [h141, ↓reduceIte, Bool.false_eq_true] at r140
        refine call_meets ((linear_isNameByte_ok h139).le ?_) (by first | (simp only [go_sem, ↓reduceIte, reduceCtorEq, nA, nB, nC, nD, nE, nF, nG, nH, iA, *] <;> rfl) | rfl) ?_
        · simp (maxDischargeDepth := 40) only [go_sem, ↓reduceIte, reduceCtorEq, nA, nB, nC, nD, nE, nF, nG, nH, iA, cast0, cast1, lA, lB, lC, lD, lE, mapV_nil, *]
        simp only [go_sem, ↓reduceIte, reduceCtorEq, nA, nB, nC, nD, nE, nF, nG, nH, iA, *]
        cases r140
        refine hKhc127 _ _ rfl ?_
        try dsimp only
        refine LeS.pick [] rfl rfl ?_ ?_
        all_goals simp (maxDischargeDepth := 40) only [go_sem, ↓reduceIte, reduceCtorEq, nA, nB, nC, nD, nE, nF, nG, nH, iA, cast0, cast1, lA, lB, lC, lD, lE, mapV_nil, *]
      | false =>
        simp only [h141, ↓reduceIte, Bool.false_eq_true] at r140
        cases r140
        dsimp only [St.on, Sum.elim_inl] at hc127
        refine call_meets ((linear_isNameByte_ok h139).le ?_) (by first | (simp only [go_sem, ↓reduceIte, reduceCtorEq, nA, nB, nC, nD, nE, nF, nG, nH, iA, *] <;> rfl) | rfl) ?_
        · simp (maxDischargeDepth := 40) only [go_sem, ↓reduceIte, reduceCtorEq, nA, nB, nC, nD, nE, nF, nG, nH, iA, cast0, cast1, lA, lB, lC, lD, lE, mapV_nil, *]
        simp only [go_sem, ↓reduceIte, reduceCtorEq, nA, nB, nC, nD, nE, nF, nG, nH, iA, *]
        cases hc127
        simp (maxDischargeDepth := 40) only [go_sem, ↓reduceIte, reduceCtorEq, nA, nB, nC, nD, nE, nF, nG, nH, iA, cast0, cast1, lA, lB, lC, lD, lE, mapV_nil, *]
    | false =>
      simp only [h133, ↓reduceIte, Bool.false_eq_true] at hq126
      cases hq126
      dsimp only [St.on, Sum.elim_inl] at hc127
      simp only [go_sem, ↓reduceIte, reduceCtorEq, nA, nB, nC, nD, nE, nF, nG, nH, iA, *]
      cases hc127
      simp (maxDischargeDepth := 40) only [go_sem, ↓reduceIte, reduceCtorEq, nA, nB, nC, nD, nE, nF, nG, nH, iA, cast0, cast1, lA, lB, lC, lD, lE, mapV_nil, *]

def linear_Name (a0 : ByteArray) : Option Bool :=
  if (decide ((1 : Int) < (a0.size : Int))) then
  (a0[0]?).bind fun x23 =>
  if ((x23.toNat : Int) == (95 : Int)) then
    (a0[1]?).bind fun x28 =>
    if ((x28.toNat : Int) != (48 : Int)) then
      if (decide ((IntKind.i64.wrap ((a0.size : Int) - (1 : Int))) ≤ (9 : Int))) then
        (linear_span__linear_isDigit a0 (1 : Int)).bind fun y80 =>
        some (y80 == (a0.size : Int))
      else
        some false
    else
      some false
  else
    if (decide ((0 : Int) < (a0.size : Int))) then
      if (decide ((a0.size : Int) ≤ (30 : Int))) then
        (linear_isLetter (x23.toNat : Int)).bind fun y86 =>
        if y86 then
          (linear_span__linear_isNameByte a0 (1 : Int)).bind fun y142 =>
          some (y142 == (a0.size : Int))
        else
          some false
      else
        some false
    else
      some false
else
  if (decide ((0 : Int) < (a0.size : Int))) then
    if (decide ((a0.size : Int) ≤ (30 : Int))) then
      (a0[0]?).bind fun x147 =>
      (linear_isLetter (x147.toNat : Int)).bind fun y151 =>
      if y151 then
        (linear_span__linear_isNameByte a0 (1 : Int)).bind fun y155 =>
        some (y155 == (a0.size : Int))
      else
        some false
    else
      some false
  else
    some false
set_option maxHeartbeats 2000000 in
theorem linear_Name_ok {a0 : ByteArray} {r : Bool} (hr : linear_Name a0 = some r) : Meets Try.prog 76 [.c (.string a0)] (.c (.bool r)) := by
  unfold linear_Name at hr
  refine meetsV_of (X := true) Ty.mixed Try.func76 (by kernel_rfl) rfl (by kernel_rfl) (by simp) ?_; rw [Try.ntmps76, Try.results76]
  cases h22 : (decide ((1 : Int) < (a0.size : Int))) with
  | true =>
    simp only [h22, ↓reduceIte, Bool.false_eq_true] at hr
    obtain ⟨x23, h24, r25⟩ := bindS hr
    clear hr
    try dsimp only at r25
    cases h27 : ((x23.toNat : Int) == (95 : Int)) with
    | true =>
      simp only [h27, ↓reduceIte, Bool.false_eq_true] at r25
      obtain ⟨x28, h29, r30⟩ := bindS r25
      clear r25
      try dsimp only at r30
      cases h32 : ((x28.toNat : Int) != (48 : Int)) with
      | true =>
        simp only [h32, ↓reduceIte, Bool.false_eq_true] at r30
        cases h33 : (decide ((IntKind.i64.wrap ((a0.size : Int) - (1 : Int))) ≤ (9 : Int))) with
        | true =>
          simp only [h33, ↓reduceIte, Bool.false_eq_true] at r30
          have g1 := (by decide : (0 : Int) ≤ 1)
          simp only [go_sem, ↓reduceIte, reduceCtorEq, nA, nB, nC, nD, nE, nF, nG, nH, iA, *]
          obtain ⟨y80, h81, r82⟩ := bindS r30
          clear r30
          try dsimp only at r82
          refine call_meets ((linear_span__linear_isDigit_ok h81).le ?_) (by first | (simp only [go_sem, ↓reduceIte, reduceCtorEq, nA, nB, nC, nD, nE, nF, nG, nH, iA, *] <;> rfl) | rfl) ?_
          · simp (maxDischargeDepth := 40) only [go_sem, ↓reduceIte, reduceCtorEq, nA, nB, nC, nD, nE, nF, nG, nH, iA, cast0, cast1, lA, lB, lC, lD, lE, mapV_nil, *]
          simp only [go_sem, ↓reduceIte, reduceCtorEq, nA, nB, nC, nD, nE, nF, nG, nH, iA, *]
          cases r82
          simp (maxDischargeDepth := 40) only [go_sem, ↓reduceIte, reduceCtorEq, nA, nB, nC, nD, nE, nF, nG, nH, iA, cast0, cast1, lA, lB, lC, lD, lE, mapV_nil, *]
        | false =>
          simp only [h33, ↓reduceIte, Bool.false_eq_true] at r30
          have g2 := (by decide : (0 : Int) ≤ 1)
          simp only [go_sem, ↓reduceIte, reduceCtorEq, nA, nB, nC, nD, nE, nF, nG, nH, iA, *]
          cases r30
          simp (maxDischargeDepth := 40) only [go_sem, ↓reduceIte, reduceCtorEq, nA, nB, nC, nD, nE, nF, nG, nH, iA, cast0, cast1, lA, lB, lC, lD, lE, mapV_nil, *]
      | false =>
        simp only [h32, ↓reduceIte, Bool.false_eq_true] at r30
        have g3 := (by decide : (0 : Int) ≤ 1)
        simp only [go_sem, ↓reduceIte, reduceCtorEq, nA, nB, nC, nD, nE, nF, nG, nH, iA, *]
        cases r30
        simp (maxDischargeDepth := 40) only [go_sem, ↓reduceIte, reduceCtorEq, nA, nB, nC, nD, nE, nF, nG, nH, iA, cast0, cast1, lA, lB, lC, lD, lE, mapV_nil, *]
    | false =>
      simp only [h27, ↓reduceIte, Bool.false_eq_true] at r25
      cases h83 : (decide ((0 : Int) < (a0.size : Int))) with
      | true =>
        simp only [h83, ↓reduceIte, Bool.false_eq_true] at r25
        cases h84 : (decide ((a0.size : Int) ≤ (30 : Int))) with
        | true =>
          simp only [h84, ↓reduceIte, Bool.false_eq_true] at r25
          simp only [go_sem, ↓reduceIte, reduceCtorEq, nA, nB, nC, nD, nE, nF, nG, nH, iA, *]
          obtain ⟨y86, h87, r88⟩ := bindS r25
          clear r25
          try dsimp only at r88
          cases h89 : y86 with
          | true =>
            simp only [h89, ↓reduceIte, Bool.false_eq_true] at r88
            refine call_meets ((linear_isLetter_ok h87).le ?_) (by first | (simp only [go_sem, ↓reduceIte, reduceCtorEq, nA, nB, nC, nD, nE, nF, nG, nH, iA, *] <;> rfl) | rfl) ?_
            · simp (maxDischargeDepth := 40) only [go_sem, ↓reduceIte, reduceCtorEq, nA, nB, nC, nD, nE, nF, nG, nH, iA, cast0, cast1, lA, lB, lC, lD, lE, mapV_nil, *]
            simp only [go_sem, ↓reduceIte, reduceCtorEq, nA, nB, nC, nD, nE, nF, nG, nH, iA, *]
            obtain ⟨y142, h143, r144⟩ := bindS r88
            clear r88
            try dsimp only at r144
            refine call_meets ((linear_span__linear_isNameByte_ok h143).le ?_) (by first | (simp only [go_sem, ↓reduceIte, reduceCtorEq, nA, nB, nC, nD, nE, nF, nG, nH, iA, *] <;> rfl) | rfl) ?_
            · simp (maxDischargeDepth := 40) only [go_sem, ↓reduceIte, reduceCtorEq, nA, nB, nC, nD, nE, nF, nG, nH, iA, cast0, cast1, lA, lB, lC, lD, lE, mapV_nil, *]
            simp only [go_sem, ↓reduceIte, reduceCtorEq, nA, nB, nC, nD, nE, nF, nG, nH, iA, *]
            cases r144
            simp (maxDischargeDepth := 40) only [go_sem, ↓reduceIte, reduceCtorEq, nA, nB, nC, nD, nE, nF, nG, nH, iA, cast0, cast1, lA, lB, lC, lD, lE, mapV_nil, *]
          | false =>
            simp only [h89, ↓reduceIte, Bool.false_eq_true] at r88
            refine call_meets ((linear_isLetter_ok h87).le ?_) (by first | (simp only [go_sem, ↓reduceIte, reduceCtorEq, nA, nB, nC, nD, nE, nF, nG, nH, iA, *] <;> rfl) | rfl) ?_
            · simp (maxDischargeDepth := 40) only [go_sem, ↓reduceIte, reduceCtorEq, nA, nB, nC, nD, nE, nF, nG, nH, iA, cast0, cast1, lA, lB, lC, lD, lE, mapV_nil, *]
            simp only [go_sem, ↓reduceIte, reduceCtorEq, nA, nB, nC, nD, nE, nF, nG, nH, iA, *]
            cases r88
            simp (maxDischargeDepth := 40) only [go_sem, ↓reduceIte, reduceCtorEq, nA, nB, nC, nD, nE, nF, nG, nH, iA, cast0, cast1, lA, lB, lC, lD, lE, mapV_nil, *]
        | false =>
          simp only [h84, ↓reduceIte, Bool.false_eq_true] at r25
          simp only [go_sem, ↓reduceIte, reduceCtorEq, nA, nB, nC, nD, nE, nF, nG, nH, iA, *]
          cases r25
          simp (maxDischargeDepth := 40) only [go_sem, ↓reduceIte, reduceCtorEq, nA, nB, nC, nD, nE, nF, nG, nH, iA, cast0, cast1, lA, lB, lC, lD, lE, mapV_nil, *]
      | false =>
        simp only [h83, ↓reduceIte, Bool.false_eq_true] at r25
        simp only [go_sem, ↓reduceIte, reduceCtorEq, nA, nB, nC, nD, nE, nF, nG, nH, iA, *]
        cases r25
        simp (maxDischargeDepth := 40) only [go_sem, ↓reduceIte, reduceCtorEq, nA, nB, nC, nD, nE, nF, nG, nH, iA, cast0, cast1, lA, lB, lC, lD, lE, mapV_nil, *]
  | false =>
    simp only [h22, ↓reduceIte, Bool.false_eq_true] at hr
    cases h145 : (decide ((0 : Int) < (a0.size : Int))) with
    | true =>
      simp only [h145, ↓reduceIte, Bool.false_eq_true] at hr
      cases h146 : (decide ((a0.size : Int) ≤ (30 : Int))) with
      | true =>
        simp only [h146, ↓reduceIte, Bool.false_eq_true] at hr
        obtain ⟨x147, h148, r149⟩ := bindS hr
        clear hr
        try dsimp only at r149
        simp only [go_sem, ↓reduceIte, reduceCtorEq, nA, nB, nC, nD, nE, nF, nG, nH, iA, *]
        obtain ⟨y151, h152, r153⟩ := bindS r149
        clear r149
        try dsimp only at r153
        cases h154 : y151 with
        | true =>
          simp only [h154, ↓reduceIte, Bool.false_eq_true] at r153
          refine call_meets ((linear_isLetter_ok h152).le ?_) (by first | (simp only [go_sem, ↓reduceIte, reduceCtorEq, nA, nB, nC, nD, nE, nF, nG, nH, iA, *] <;> rfl) | rfl) ?_
          · simp (maxDischargeDepth := 40) only [go_sem, ↓reduceIte, reduceCtorEq, nA, nB, nC, nD, nE, nF, nG, nH, iA, cast0, cast1, lA, lB, lC, lD, lE, mapV_nil, *]
          simp only [go_sem, ↓reduceIte, reduceCtorEq, nA, nB, nC, nD, nE, nF, nG, nH, iA, *]
          obtain ⟨y155, h156, r157⟩ := bindS r153
          clear r153
          try dsimp only at r157
          refine call_meets ((linear_span__linear_isNameByte_ok h156).le ?_) (by first | (simp only [go_sem, ↓reduceIte, reduceCtorEq, nA, nB, nC, nD, nE, nF, nG, nH, iA, *] <;> rfl) | rfl) ?_
          · simp (maxDischargeDepth := 40) only [go_sem, ↓reduceIte, reduceCtorEq, nA, nB, nC, nD, nE, nF, nG, nH, iA, cast0, cast1, lA, lB, lC, lD, lE, mapV_nil, *]
          simp only [go_sem, ↓reduceIte, reduceCtorEq, nA, nB, nC, nD, nE, nF, nG, nH, iA, *]
          cases r157
          simp (maxDischargeDepth := 40) only [go_sem, ↓reduceIte, reduceCtorEq, nA, nB, nC, nD, nE, nF, nG, nH, iA, cast0, cast1, lA, lB, lC, lD, lE, mapV_nil, *]
        | false =>
          simp only [h154, ↓reduceIte, Bool.false_eq_true] at r153
          refine call_meets ((linear_isLetter_ok h152).le ?_) (by first | (simp only [go_sem, ↓reduceIte, reduceCtorEq, nA, nB, nC, nD, nE, nF, nG, nH, iA, *] <;> rfl) | rfl) ?_
          · simp (maxDischargeDepth := 40) only [go_sem, ↓reduceIte, reduceCtorEq, nA, nB, nC, nD, nE, nF, nG, nH, iA, cast0, cast1, lA, lB, lC, lD, lE, mapV_nil, *]
          simp only [go_sem, ↓reduceIte, reduceCtorEq, nA, nB, nC, nD, nE, nF, nG, nH, iA, *]
          cases r153
          simp (maxDischargeDepth := 40) only [go_sem, ↓reduceIte, reduceCtorEq, nA, nB, nC, nD, nE, nF, nG, nH, iA, cast0, cast1, lA, lB, lC, lD, lE, mapV_nil, *]
      | false =>
        simp only [h146, ↓reduceIte, Bool.false_eq_true] at hr
        simp only [go_sem, ↓reduceIte, reduceCtorEq, nA, nB, nC, nD, nE, nF, nG, nH, iA, *]
        cases hr
        simp (maxDischargeDepth := 40) only [go_sem, ↓reduceIte, reduceCtorEq, nA, nB, nC, nD, nE, nF, nG, nH, iA, cast0, cast1, lA, lB, lC, lD, lE, mapV_nil, *]
    | false =>
      simp only [h145, ↓reduceIte, Bool.false_eq_true] at hr
      simp only [go_sem, ↓reduceIte, reduceCtorEq, nA, nB, nC, nD, nE, nF, nG, nH, iA, *]
      cases hr
      simp (maxDischargeDepth := 40) only [go_sem, ↓reduceIte, reduceCtorEq, nA, nB, nC, nD, nE, nF, nG, nH, iA, cast0, cast1, lA, lB, lC, lD, lE, mapV_nil, *]

def linear_Valid (a0 : Int × (List (ByteArray × Int))) : Option Bool :=
  (linear_fits a0.1).bind fun y7 =>
if y7 then
  if (decide ((12 : Int) < ((a0.2.length : Nat) : Int))) then
    some false
  else
    (forC (R := Bool) (a0.2.length) (() : Unit) fun k190 s189 =>
      (a0.2[k190]?).bind fun x198 =>
      if (x198.2 == (0 : Int)) then
        some (.rt false)
      else
        (linear_fits x198.2).bind fun y203 =>
        if y203 then
          (linear_Name x198.1).bind fun y207 =>
          if y207 then
            if (decide ((0 : Int) < (k190 : Int))) then
              (idxO a0.2 (IntKind.i64.wrap ((k190 : Int) - (1 : Int)))).bind fun x212 =>
              if (lessB x212.1 x198.1) then
                some (.nx ())
              else
                some (.rt false)
            else
              some (.nx ())
          else
            some (.rt false)
        else
          some (.rt false)).bind (Sum.elim (fun s189 =>
      some true) some)
else
  some false
set_option maxHeartbeats 2000000 in
theorem linear_Valid_ok {a0 : Int × (List (ByteArray × Int))} {r : Bool} (hr : linear_Valid a0 = some r) : Meets Try.prog 51 [.agg [.c (.int .i64 a0.1), .sl false 2 (a0.2.map e_api_Coef)]] (.c (.bool r)) := by
  unfold linear_Valid at hr
  refine meetsV_of (X := true) Ty.mixed Try.func51 (by kernel_rfl) rfl (by kernel_rfl) (by simp) ?_; rw [Try.ntmps51, Try.results51]
  simp only [go_sem, ↓reduceIte, reduceCtorEq, nA, nB, nC, nD, nE, nF, nG, nH, iA, *]
  obtain ⟨y7, h8, r9⟩ := bindS hr
  clear hr
  try dsimp only at r9
  cases h10 : y7 with
  | true =>
    simp only [h10, ↓reduceIte, Bool.false_eq_true] at r9
    cases h11 : (decide ((12 : Int) < ((a0.2.length : Nat) : Int))) with
    | true =>
      simp only [h11, ↓reduceIte, Bool.false_eq_true] at r9
      refine call_meets ((linear_fits_ok h8).le ?_) (by first | (simp only [go_sem, ↓reduceIte, reduceCtorEq, nA, nB, nC, nD, nE, nF, nG, nH, iA, *] <;> rfl) | rfl) ?_
      · simp (maxDischargeDepth := 40) only [go_sem, ↓reduceIte, reduceCtorEq, nA, nB, nC, nD, nE, nF, nG, nH, iA, cast0, cast1, lA, lB, lC, lD, lE, mapV_nil, *]
      simp only [go_sem, ↓reduceIte, reduceCtorEq, nA, nB, nC, nD, nE, nF, nG, nH, iA, *]
      cases r9
      simp (maxDischargeDepth := 40) only [go_sem, ↓reduceIte, reduceCtorEq, nA, nB, nC, nD, nE, nF, nG, nH, iA, cast0, cast1, lA, lB, lC, lD, lE, mapV_nil, *]
    | false =>
      simp only [h11, ↓reduceIte, Bool.false_eq_true] at r9
      refine call_meets ((linear_fits_ok h8).le ?_) (by first | (simp only [go_sem, ↓reduceIte, reduceCtorEq, nA, nB, nC, nD, nE, nF, nG, nH, iA, *] <;> rfl) | rfl) ?_
      · simp (maxDischargeDepth := 40) only [go_sem, ↓reduceIte, reduceCtorEq, nA, nB, nC, nD, nE, nF, nG, nH, iA, cast0, cast1, lA, lB, lC, lD, lE, mapV_nil, *]
      simp only [go_sem, ↓reduceIte, reduceCtorEq, nA, nB, nC, nD, nE, nF, nG, nH, iA, *]
      refine loop_for r9 (fun k190 s189 => ⟨55, [(1, .ptr 0 0), (16, .sl false 2 (a0.2.map e_api_Coef)), (17, .c (.int .i64 ((a0.2.length : Nat) : Int))), (18, .c (.int .i64 (k190 : Int)))], [some (.var 26 [.c (.int .i64 a0.1), .sl false 2 (a0.2.map e_api_Coef)])]⟩) ?_ ?_ ?_
      · try dsimp only
        refine LeS.pick [some 0] rfl rfl ?_ ?_
        all_goals simp (maxDischargeDepth := 40) only [go_sem, ↓reduceIte, reduceCtorEq, nA, nB, nC, nD, nE, nF, nG, nH, iA, cast0, cast1, lA, lB, lC, lD, lE, mapV_nil, *]
      · intro k190 s189 qhc192 h193 h194 h195 h196 hq191 hc192 Khc192 hKhc192
        try dsimp only at hq191
        obtain ⟨x198, h199, r200⟩ := bindS hq191
        clear hq191
        try dsimp only at r200
        have g4 := get_map e_api_Coef h199
        simp only [go_sem, ↓reduceIte, reduceCtorEq, nA, nB, nC, nD, nE, nF, nG, nH, iA, *]
        cases h202 : (x198.2 == (0 : Int)) with
        | true =>
          simp only [h202, ↓reduceIte, Bool.false_eq_true] at r200
          refine drawS_tail (by kernel_rfl) ?_
          simp only [go_sem, ↓reduceIte, reduceCtorEq, nA, nB, nC, nD, nE, nF, nG, nH, iA, *]
          cases r200
          dsimp only [St.on, Sum.elim_inr] at hc192
          cases hc192
          simp (maxDischargeDepth := 40) only [go_sem, ↓reduceIte, reduceCtorEq, nA, nB, nC, nD, nE, nF, nG, nH, iA, cast0, cast1, lA, lB, lC, lD, lE, mapV_nil, *]
        | false =>
          simp only [h202, ↓reduceIte, Bool.false_eq_true] at r200
          refine drawS_tail (by kernel_rfl) ?_
          simp only [go_sem, ↓reduceIte, reduceCtorEq, nA, nB, nC, nD, nE, nF, nG, nH, iA, *]
          obtain ⟨y203, h204, r205⟩ := bindS r200
          clear r200
          try dsimp only at r205
          cases h206 : y203 with
          | true =>
            simp only [h206, ↓reduceIte, Bool.false_eq_true] at r205
            refine calld_meets ((linear_fits_ok h204).le ?_) (by first | (simp only [go_sem, ↓reduceIte, reduceCtorEq, nA, nB, nC, nD, nE, nF, nG, nH, iA, *] <;> rfl) | rfl) (by simp only [go_sem, ↓reduceIte, reduceCtorEq, nA, nB, nC, nD, nE, nF, nG, nH, iA, *]) ?_
            · simp (maxDischargeDepth := 40) only [go_sem, ↓reduceIte, reduceCtorEq, nA, nB, nC, nD, nE, nF, nG, nH, iA, cast0, cast1, lA, lB, lC, lD, lE, mapV_nil, *]
            simp only [go_sem, ↓reduceIte, reduceCtorEq, nA, nB, nC, nD, nE, nF, nG, nH, iA, *]
            obtain ⟨y207, h208, r209⟩ := bindS r205
            clear r205
            try dsimp only at r209
            cases h210 : y207 with
            | true =>
              simp only [h210, ↓reduceIte, Bool.false_eq_true] at r209
              cases h211 : (decide ((0 : Int) < (k190 : Int))) with
              | true =>
                simp only [h211, ↓reduceIte, Bool.false_eq_true] at r209
                obtain ⟨x212, h213, r214⟩ := bindS r209
                clear r209
                try dsimp only at r214
                obtain ⟨h215, _, h213⟩ := idxO_some h213
                cases h216 : (lessB x212.1 x198.1) with
                | true =>
                  simp only [h216, ↓reduceIte, Bool.false_eq_true] at r214
                  have g5 := get_map e_api_Coef h213
                  refine calld_meets ((linear_Name_ok h208).le ?_) (by first | (simp only [go_sem, ↓reduceIte, reduceCtorEq, nA, nB, nC, nD, nE, nF, nG, nH, iA, *] <;> rfl) | rfl) (by simp only [go_sem, ↓reduceIte, reduceCtorEq, nA, nB, nC, nD, nE, nF, nG, nH, iA, *]) ?_
                  · simp (maxDischargeDepth := 40) only [go_sem, ↓reduceIte, reduceCtorEq, nA, nB, nC, nD, nE, nF, nG, nH, iA, cast0, cast1, lA, lB, lC, lD, lE, mapV_nil, *]
                  simp only [go_sem, ↓reduceIte, reduceCtorEq, nA, nB, nC, nD, nE, nF, nG, nH, iA, *]
                  cases r214
                  refine hKhc192 _ _ rfl ?_
                  try dsimp only
                  refine LeS.pick [some 0] rfl rfl ?_ ?_
                  all_goals simp (maxDischargeDepth := 40) only [go_sem, ↓reduceIte, reduceCtorEq, nA, nB, nC, nD, nE, nF, nG, nH, iA, cast0, cast1, lA, lB, lC, lD, lE, mapV_nil, *]
                | false =>
                  simp only [h216, ↓reduceIte, Bool.false_eq_true] at r214
                  have g6 := get_map e_api_Coef h213
                  refine calld_meets ((linear_Name_ok h208).le ?_) (by first | (simp only [go_sem, ↓reduceIte, reduceCtorEq, nA, nB, nC, nD, nE, nF, nG, nH, iA, *] <;> rfl) | rfl) (by simp only [go_sem, ↓reduceIte, reduceCtorEq, nA, nB, nC, nD, nE, nF, nG, nH, iA, *]) ?_
                  · simp (maxDischargeDepth := 40) only [go_sem, ↓reduceIte, reduceCtorEq, nA, nB, nC, nD, nE, nF, nG, nH, iA, cast0, cast1, lA, lB, lC, lD, lE, mapV_nil, *]
                  simp only [go_sem, ↓reduceIte, reduceCtorEq, nA, nB, nC, nD, nE, nF, nG, nH, iA, *]
                  cases r214
                  dsimp only [St.on, Sum.elim_inr] at hc192
                  cases hc192
                  simp (maxDischargeDepth := 40) only [go_sem, ↓reduceIte, reduceCtorEq, nA, nB, nC, nD, nE, nF, nG, nH, iA, cast0, cast1, lA, lB, lC, lD, lE, mapV_nil, *]
              | false =>
                simp only [h211, ↓reduceIte, Bool.false_eq_true] at r209
                refine calld_meets ((linear_Name_ok h208).le ?_) (by first | (simp only [go_sem, ↓reduceIte, reduceCtorEq, nA, nB, nC, nD, nE, nF, nG, nH, iA, *] <;> rfl) | rfl) (by simp only [go_sem, ↓reduceIte, reduceCtorEq, nA, nB, nC, nD, nE, nF, nG, nH, iA, *]) ?_
                · simp (maxDischargeDepth := 40) only [go_sem, ↓reduceIte, reduceCtorEq, nA, nB, nC, nD, nE, nF, nG, nH, iA, cast0, cast1, lA, lB, lC, lD, lE, mapV_nil, *]
                simp only [go_sem, ↓reduceIte, reduceCtorEq, nA, nB, nC, nD, nE, nF, nG, nH, iA, *]
                cases r209
                refine hKhc192 _ _ rfl ?_
                try dsimp only
                refine LeS.pick [some 0] rfl rfl ?_ ?_
                all_goals simp (maxDischargeDepth := 40) only [go_sem, ↓reduceIte, reduceCtorEq, nA, nB, nC, nD, nE, nF, nG, nH, iA, cast0, cast1, lA, lB, lC, lD, lE, mapV_nil, *]
            | false =>
              simp only [h210, ↓reduceIte, Bool.false_eq_true] at r209
              refine calld_meets ((linear_Name_ok h208).le ?_) (by first | (simp only [go_sem, ↓reduceIte, reduceCtorEq, nA, nB, nC, nD, nE, nF, nG, nH, iA, *] <;> rfl) | rfl) (by simp only [go_sem, ↓reduceIte, reduceCtorEq, nA, nB, nC, nD, nE, nF, nG, nH, iA, *]) ?_
              · simp (maxDischargeDepth := 40) only [go_sem, ↓reduceIte, reduceCtorEq, nA, nB, nC, nD, nE, nF, nG, nH, iA, cast0, cast1, lA, lB, lC, lD, lE, mapV_nil, *]
              simp only [go_sem, ↓reduceIte, reduceCtorEq, nA, nB, nC, nD, nE, nF, nG, nH, iA, *]
              cases r209
              dsimp only [St.on, Sum.elim_inr] at hc192
              cases hc192
              simp (maxDischargeDepth := 40) only [go_sem, ↓reduceIte, reduceCtorEq, nA, nB, nC, nD, nE, nF, nG, nH, iA, cast0, cast1, lA, lB, lC, lD, lE, mapV_nil, *]
          | false =>
            simp only [h206, ↓reduceIte, Bool.false_eq_true] at r205
            refine calld_meets ((linear_fits_ok h204).le ?_) (by first | (simp only [go_sem, ↓reduceIte, reduceCtorEq, nA, nB, nC, nD, nE, nF, nG, nH, iA, *] <;> rfl) | rfl) (by simp only [go_sem, ↓reduceIte, reduceCtorEq, nA, nB, nC, nD, nE, nF, nG, nH, iA, *]) ?_
            · simp (maxDischargeDepth := 40) only [go_sem, ↓reduceIte, reduceCtorEq, nA, nB, nC, nD, nE, nF, nG, nH, iA, cast0, cast1, lA, lB, lC, lD, lE, mapV_nil, *]
            simp only [go_sem, ↓reduceIte, reduceCtorEq, nA, nB, nC, nD, nE, nF, nG, nH, iA, *]
            cases r205
            dsimp only [St.on, Sum.elim_inr] at hc192
            cases hc192
            simp (maxDischargeDepth := 40) only [go_sem, ↓reduceIte, reduceCtorEq, nA, nB, nC, nD, nE, nF, nG, nH, iA, cast0, cast1, lA, lB, lC, lD, lE, mapV_nil, *]
      · clear r9
        intro s189 r9 h193 h197 Khc192
        dsimp only [Sum.elim_inl] at r9
        simp only [go_sem, ↓reduceIte, reduceCtorEq, nA, nB, nC, nD, nE, nF, nG, nH, iA, *]
        cases r9
        simp (maxDischargeDepth := 40) only [go_sem, ↓reduceIte, reduceCtorEq, nA, nB, nC, nD, nE, nF, nG, nH, iA, cast0, cast1, lA, lB, lC, lD, lE, mapV_nil, *]
  | false =>
    simp only [h10, ↓reduceIte, Bool.false_eq_true] at r9
    refine call_meets ((linear_fits_ok h8).le ?_) (by first | (simp only [go_sem, ↓reduceIte, reduceCtorEq, nA, nB, nC, nD, nE, nF, nG, nH, iA, *] <;> rfl) | rfl) ?_
    · simp (maxDischargeDepth := 40) only [go_sem, ↓reduceIte, reduceCtorEq, nA, nB, nC, nD, nE, nF, nG, nH, iA, cast0, cast1, lA, lB, lC, lD, lE, mapV_nil, *]
    simp only [go_sem, ↓reduceIte, reduceCtorEq, nA, nB, nC, nD, nE, nF, nG, nH, iA, *]
    cases r9
    simp (maxDischargeDepth := 40) only [go_sem, ↓reduceIte, reduceCtorEq, nA, nB, nC, nD, nE, nF, nG, nH, iA, cast0, cast1, lA, lB, lC, lD, lE, mapV_nil, *]

def certificate_Valid_1 (a0 : Bool × (Int × (List (ByteArray × Int)))) : Option Bool :=
  (linear_Valid a0.2).bind fun y217 =>
some (!y217)
set_option maxHeartbeats 2000000 in
theorem certificate_Valid_1_ok {a0 : Bool × (Int × (List (ByteArray × Int)))} {r : Bool} (hr : certificate_Valid_1 a0 = some r) : Meets Try.prog 50 [.agg [.c (.bool a0.1), .c (.int .i64 a0.2.1), .sl false 2 (a0.2.2.map e_api_Coef)]] (.c (.bool r)) := by
  unfold certificate_Valid_1 at hr
  refine meetsV_of (X := true) Ty.mixed Try.func50 (by kernel_rfl) rfl (by kernel_rfl) (by simp) ?_; rw [Try.ntmps50, Try.results50]
  simp only [go_sem, ↓reduceIte, reduceCtorEq, nA, nB, nC, nD, nE, nF, nG, nH, iA, *]
  obtain ⟨y217, h218, r219⟩ := bindS hr
  clear hr
  try dsimp only at r219
  refine call_meets ((linear_Valid_ok h218).le ?_) (by first | (simp only [go_sem, ↓reduceIte, reduceCtorEq, nA, nB, nC, nD, nE, nF, nG, nH, iA, *] <;> rfl) | rfl) ?_
  · simp (maxDischargeDepth := 40) only [go_sem, ↓reduceIte, reduceCtorEq, nA, nB, nC, nD, nE, nF, nG, nH, iA, cast0, cast1, lA, lB, lC, lD, lE, mapV_nil, *]
  simp only [go_sem, ↓reduceIte, reduceCtorEq, nA, nB, nC, nD, nE, nF, nG, nH, iA, *]
  cases r219
  simp (maxDischargeDepth := 40) only [go_sem, ↓reduceIte, reduceCtorEq, nA, nB, nC, nD, nE, nF, nG, nH, iA, cast0, cast1, lA, lB, lC, lD, lE, mapV_nil, *]

def slices_IndexFunc_L_api_Fact__certificate_Valid_1 (a0 : List (Bool × (Int × (List (ByteArray × Int))))) : Option Int :=
  (forC (R := Int) (a0.length) (() : Unit) fun k235 s234 =>
  (a0[k235]?).bind fun x243 =>
  (certificate_Valid_1 x243).bind fun y247 =>
  if y247 then
    some (.rt (k235 : Int))
  else
    some (.nx ())).bind (Sum.elim (fun s234 =>
  some (-1 : Int)) some)
set_option maxHeartbeats 2000000 in
theorem slices_IndexFunc_L_api_Fact__certificate_Valid_1_ok {a0 : List (Bool × (Int × (List (ByteArray × Int))))} {r : Int} (hr : slices_IndexFunc_L_api_Fact__certificate_Valid_1 a0 = some r) : Meets Try.prog 74 [.sl false 3 (a0.map e_api_Fact), .fn 50 []] (.c (.int .i64 r)) := by
  unfold slices_IndexFunc_L_api_Fact__certificate_Valid_1 at hr
  refine meetsV_of (X := true) Ty.mixed Try.func74 (by kernel_rfl) rfl (by kernel_rfl) (by simp) ?_; rw [Try.ntmps74, Try.results74]
  simp only [go_sem, ↓reduceIte, reduceCtorEq, nA, nB, nC, nD, nE, nF, nG, nH, iA, *]
  refine loop_for hr (fun k235 s234 => ⟨19, [(0, .sl false 3 (a0.map e_api_Fact)), (1, .fn 50 []), (7, .c (.int .i64 ((a0.length : Nat) : Int))), (8, .c (.int .i64 (k235 : Int)))], []⟩) ?_ ?_ ?_
  · try dsimp only
    refine LeS.pick [] rfl rfl ?_ ?_
    all_goals simp (maxDischargeDepth := 40) only [go_sem, ↓reduceIte, reduceCtorEq, nA, nB, nC, nD, nE, nF, nG, nH, iA, cast0, cast1, lA, lB, lC, lD, lE, mapV_nil, *]
  · intro k235 s234 qhc237 h238 h239 h240 h241 hq236 hc237 Khc237 hKhc237
    try dsimp only at hq236
    obtain ⟨x243, h244, r245⟩ := bindS hq236
    clear hq236
    try dsimp only at r245
    have g7 := get_map e_api_Fact h244
    simp only [go_sem, ↓reduceIte, reduceCtorEq, nA, nB, nC, nD, nE, nF, nG, nH, iA, *]
    obtain ⟨y247, h248, r249⟩ := bindS r245
    clear r245
    try dsimp only at r249
    cases h250 : y247 with
    | true =>
      simp only [h250, ↓reduceIte, Bool.false_eq_true] at r249
      refine call_meets ((certificate_Valid_1_ok h248).le ?_) (by first | (simp only [go_sem, ↓reduceIte, reduceCtorEq, nA, nB, nC, nD, nE, nF, nG, nH, iA, *] <;> rfl) | rfl) ?_
      · simp (maxDischargeDepth := 40) only [go_sem, ↓reduceIte, reduceCtorEq, nA, nB, nC, nD, nE, nF, nG, nH, iA, cast0, cast1, lA, lB, lC, lD, lE, mapV_nil, *]
      simp only [go_sem, ↓reduceIte, reduceCtorEq, nA, nB, nC, nD, nE, nF, nG, nH, iA, *]
      cases r249
      dsimp only [St.on, Sum.elim_inr] at hc237
      cases hc237
      simp (maxDischargeDepth := 40) only [go_sem, ↓reduceIte, reduceCtorEq, nA, nB, nC, nD, nE, nF, nG, nH, iA, cast0, cast1, lA, lB, lC, lD, lE, mapV_nil, *]
    | false =>
      simp only [h250, ↓reduceIte, Bool.false_eq_true] at r249
      refine call_meets ((certificate_Valid_1_ok h248).le ?_) (by first | (simp only [go_sem, ↓reduceIte, reduceCtorEq, nA, nB, nC, nD, nE, nF, nG, nH, iA, *] <;> rfl) | rfl) ?_
      · simp (maxDischargeDepth := 40) only [go_sem, ↓reduceIte, reduceCtorEq, nA, nB, nC, nD, nE, nF, nG, nH, iA, cast0, cast1, lA, lB, lC, lD, lE, mapV_nil, *]
      simp only [go_sem, ↓reduceIte, reduceCtorEq, nA, nB, nC, nD, nE, nF, nG, nH, iA, *]
      cases r249
      refine hKhc237 _ _ rfl ?_
      try dsimp only
      refine LeS.pick [] rfl rfl ?_ ?_
      all_goals simp (maxDischargeDepth := 40) only [go_sem, ↓reduceIte, reduceCtorEq, nA, nB, nC, nD, nE, nF, nG, nH, iA, cast0, cast1, lA, lB, lC, lD, lE, mapV_nil, *]
  · clear hr
    intro s234 hr h238 h242 Khc237
    dsimp only [Sum.elim_inl] at hr
    simp only [go_sem, ↓reduceIte, reduceCtorEq, nA, nB, nC, nD, nE, nF, nG, nH, iA, *]
    cases hr
    simp (maxDischargeDepth := 40) only [go_sem, ↓reduceIte, reduceCtorEq, nA, nB, nC, nD, nE, nF, nG, nH, iA, cast0, cast1, lA, lB, lC, lD, lE, mapV_nil, *]

def slices_ContainsFunc_L_api_Fact__certificate_Valid_1 (a0 : List (Bool × (Int × (List (ByteArray × Int))))) : Option Bool :=
  (slices_IndexFunc_L_api_Fact__certificate_Valid_1 a0).bind fun y251 =>
some (decide ((0 : Int) ≤ y251))
set_option maxHeartbeats 2000000 in
theorem slices_ContainsFunc_L_api_Fact__certificate_Valid_1_ok {a0 : List (Bool × (Int × (List (ByteArray × Int))))} {r : Bool} (hr : slices_ContainsFunc_L_api_Fact__certificate_Valid_1 a0 = some r) : Meets Try.prog 49 [.sl false 3 (a0.map e_api_Fact), .fn 50 []] (.c (.bool r)) := by
  unfold slices_ContainsFunc_L_api_Fact__certificate_Valid_1 at hr
  refine meetsV_of (X := true) Ty.mixed Try.func49 (by kernel_rfl) rfl (by kernel_rfl) (by simp) ?_; rw [Try.ntmps49, Try.results49]
  simp only [go_sem, ↓reduceIte, reduceCtorEq, nA, nB, nC, nD, nE, nF, nG, nH, iA, *]
  obtain ⟨y251, h252, r253⟩ := bindS hr
  clear hr
  try dsimp only at r253
  refine call_meets ((slices_IndexFunc_L_api_Fact__certificate_Valid_1_ok h252).le ?_) (by first | (simp only [go_sem, ↓reduceIte, reduceCtorEq, nA, nB, nC, nD, nE, nF, nG, nH, iA, *] <;> rfl) | rfl) ?_
  · simp (maxDischargeDepth := 40) only [go_sem, ↓reduceIte, reduceCtorEq, nA, nB, nC, nD, nE, nF, nG, nH, iA, cast0, cast1, lA, lB, lC, lD, lE, mapV_nil, *]
  simp only [go_sem, ↓reduceIte, reduceCtorEq, nA, nB, nC, nD, nE, nF, nG, nH, iA, *]
  cases r253
  simp (maxDischargeDepth := 40) only [go_sem, ↓reduceIte, reduceCtorEq, nA, nB, nC, nD, nE, nF, nG, nH, iA, cast0, cast1, lA, lB, lC, lD, lE, mapV_nil, *]

def certificate_Valid (a0 : List (Bool × (Int × (List (ByteArray × Int))))) : Option Bool :=
  (slices_ContainsFunc_L_api_Fact__certificate_Valid_1 a0).bind fun y254 =>
some (!y254)
set_option maxHeartbeats 2000000 in
theorem certificate_Valid_ok {a0 : List (Bool × (Int × (List (ByteArray × Int))))} {r : Bool} (hr : certificate_Valid a0 = some r) : Meets Try.prog 20 [.sl false 3 (a0.map e_api_Fact)] (.c (.bool r)) := by
  unfold certificate_Valid at hr
  refine meetsV_of (X := true) Ty.mixed Try.func20 (by kernel_rfl) rfl (by kernel_rfl) (by simp) ?_; rw [Try.ntmps20, Try.results20]
  simp only [go_sem, ↓reduceIte, reduceCtorEq, nA, nB, nC, nD, nE, nF, nG, nH, iA, *]
  obtain ⟨y254, h255, r256⟩ := bindS hr
  clear hr
  try dsimp only at r256
  refine call_meets ((slices_ContainsFunc_L_api_Fact__certificate_Valid_1_ok h255).le ?_) (by first | (simp only [go_sem, ↓reduceIte, reduceCtorEq, nA, nB, nC, nD, nE, nF, nG, nH, iA, *] <;> rfl) | rfl) ?_
  · simp (maxDischargeDepth := 40) only [go_sem, ↓reduceIte, reduceCtorEq, nA, nB, nC, nD, nE, nF, nG, nH, iA, cast0, cast1, lA, lB, lC, lD, lE, mapV_nil, *]
  simp only [go_sem, ↓reduceIte, reduceCtorEq, nA, nB, nC, nD, nE, nF, nG, nH, iA, *]
  cases r256
  simp (maxDischargeDepth := 40) only [go_sem, ↓reduceIte, reduceCtorEq, nA, nB, nC, nD, nE, nF, nG, nH, iA, cast0, cast1, lA, lB, lC, lD, lE, mapV_nil, *]

def certificate_count : Nat → T_api_Cert → Int → Option Int
  | 0, _, _ => none
  | fuel + 1, a0, a1 =>
  (forC (R := Int) (a0.f3.length) ((1 : Int) : Int) fun k289 s288 =>
  (a0.f3[k289]?).bind fun x297 =>
  if (decide (a1 < s288)) then
    some (.br s288)
  else
    (certificate_count fuel x297 (IntKind.i64.wrap (a1 - s288))).bind fun y302 =>
    some (.nx (IntKind.i64.wrap (s288 + y302)))).bind (Sum.elim (fun s288 =>
  some s288) some)
set_option maxHeartbeats 2000000 in
theorem certificate_count_all (fuel : Nat) : ∀ {a0 : T_api_Cert} {a1 : Int} {r : Int}, certificate_count fuel a0 a1 = some r → Meets Try.prog 40 [.agg [.c (.int .i64 a0.f0), .sl false 1 (a0.f1.map e_int), .c (.int .i64 a0.f2.1), .sl false 2 (a0.f2.2.map e_api_Coef), .sl false 5 (a0.f3.map e_api_Cert)], .c (.int .i64 a1)] (.c (.int .i64 r)) := by
  induction fuel with
  | zero =>
    · intro a0 a1 r hr
      rw [certificate_count] at hr
      cases hr
  | succ fuel ih =>
    have ih_certificate_count := @ih
    · intro a0 a1 r hr
      rw [certificate_count] at hr
      refine meetsV_of (X := true) Ty.mixed Try.func40 (by kernel_rfl) rfl (by kernel_rfl) (by simp) ?_; rw [Try.ntmps40, Try.results40]
      simp only [go_sem, ↓reduceIte, reduceCtorEq, nA, nB, nC, nD, nE, nF, nG, nH, iA, *]
      refine loop_for hr (fun k289 s288 => ⟨27, [(1, .c (.int .i64 a1)), (5, .c (.int .i64 s288)), (9, .sl false 5 (a0.f3.map e_api_Cert)), (10, .c (.int .i64 ((a0.f3.length : Nat) : Int))), (11, .c (.int .i64 (k289 : Int)))], [some (.var 29 [.c (.int .i64 a0.f0), .sl false 1 (a0.f1.map e_int), .c (.int .i64 a0.f2.1), .sl false 2 (a0.f2.2.map e_api_Coef), .sl false 5 (a0.f3.map e_api_Cert)])]⟩) ?_ ?_ ?_
      · try dsimp only
        refine LeS.pick [some 0] rfl rfl ?_ ?_
        all_goals simp (maxDischargeDepth := 40) only [go_sem, ↓reduceIte, reduceCtorEq, nA, nB, nC, nD, nE, nF, nG, nH, iA, cast0, cast1, lA, lB, lC, lD, lE, mapV_nil, *]
      · intro k289 s288 qhc291 h292 h293 h294 h295 hq290 hc291 Khc291 hKhc291
        try dsimp only at hq290
        obtain ⟨x297, h298, r299⟩ := bindS hq290
        clear hq290
        try dsimp only at r299
        cases h301 : (decide (a1 < s288)) with
        | true =>
          simp only [h301, ↓reduceIte, Bool.false_eq_true] at r299
          cases r299
          dsimp only [St.on, Sum.elim_inl] at hc291
          have g8 := get_map e_api_Cert h298
          simp only [go_sem, ↓reduceIte, reduceCtorEq, nA, nB, nC, nD, nE, nF, nG, nH, iA, *]
          cases hc291
          simp (maxDischargeDepth := 40) only [go_sem, ↓reduceIte, reduceCtorEq, nA, nB, nC, nD, nE, nF, nG, nH, iA, cast0, cast1, lA, lB, lC, lD, lE, mapV_nil, *]
        | false =>
          simp only [h301, ↓reduceIte, Bool.false_eq_true] at r299
          have g9 := get_map e_api_Cert h298
          simp only [go_sem, ↓reduceIte, reduceCtorEq, nA, nB, nC, nD, nE, nF, nG, nH, iA, *]
          obtain ⟨y302, h303, r304⟩ := bindS r299
          clear r299
          try dsimp only at r304
          refine call_meets ((ih_certificate_count h303).le ?_) (by first | (simp only [go_sem, ↓reduceIte, reduceCtorEq, nA, nB, nC, nD, nE, nF, nG, nH, iA, *] <;> rfl) | rfl) ?_
          · simp (maxDischargeDepth := 40) only [go_sem, ↓reduceIte, reduceCtorEq, nA, nB, nC, nD, nE, nF, nG, nH, iA, cast0, cast1, lA, lB, lC, lD, lE, mapV_nil, *]
          simp only [go_sem, ↓reduceIte, reduceCtorEq, nA, nB, nC, nD, nE, nF, nG, nH, iA, *]
          cases r304
          refine hKhc291 _ _ rfl ?_
          try dsimp only
          refine LeS.pick [some 0] rfl rfl ?_ ?_
          all_goals simp (maxDischargeDepth := 40) only [go_sem, ↓reduceIte, reduceCtorEq, nA, nB, nC, nD, nE, nF, nG, nH, iA, cast0, cast1, lA, lB, lC, lD, lE, mapV_nil, *]
      · clear hr
        intro s288 hr h292 h296 Khc291
        dsimp only [Sum.elim_inl] at hr
        simp only [go_sem, ↓reduceIte, reduceCtorEq, nA, nB, nC, nD, nE, nF, nG, nH, iA, *]
        cases hr
        simp (maxDischargeDepth := 40) only [go_sem, ↓reduceIte, reduceCtorEq, nA, nB, nC, nD, nE, nF, nG, nH, iA, cast0, cast1, lA, lB, lC, lD, lE, mapV_nil, *]
theorem certificate_count_ok {fuel : Nat} : ∀ {a0 : T_api_Cert} {a1 : Int} {r : Int}, certificate_count fuel a0 a1 = some r → Meets Try.prog 40 [.agg [.c (.int .i64 a0.f0), .sl false 1 (a0.f1.map e_int), .c (.int .i64 a0.f2.1), .sl false 2 (a0.f2.2.map e_api_Coef), .sl false 5 (a0.f3.map e_api_Cert)], .c (.int .i64 a1)] (.c (.int .i64 r)) := certificate_count_all fuel

def certificate_total_add (a0 : Int × Int) (a1 : Int) : Option ((Int × Int)) :=
  some ((IntKind.i64.wrap (a0.1 + ((IntKind.i64.wrap (a1 + a0.2)).fdiv ((2 : Int) ^ min 40 (IntKind.bits .i64))))), (bits .and .i64 (IntKind.i64.wrap (a1 + a0.2)) (1099511627775 : Int)))
set_option maxHeartbeats 2000000 in
theorem certificate_total_add_ok {a0 : Int × Int} {a1 : Int} {r : (Int × Int)} (hr : certificate_total_add a0 a1 = some r) : Meets Try.prog 83 [.agg [.c (.int .i64 a0.1), .c (.int .i64 a0.2)], .c (.int .i64 a1)] (.agg [.c (.int .i64 r.1), .c (.int .i64 r.2)]) := by
  unfold certificate_total_add at hr
  refine meetsV_of (X := true) Ty.mixed Try.func83 (by kernel_rfl) rfl (by kernel_rfl) (by simp) ?_; rw [Try.ntmps83, Try.results83]
  have g10 := (by decide : (0 : Int) ≤ 40)
  simp only [go_sem, ↓reduceIte, reduceCtorEq, nA, nB, nC, nD, nE, nF, nG, nH, iA, *]
  cases hr
  simp (maxDischargeDepth := 40) only [go_sem, ↓reduceIte, reduceCtorEq, nA, nB, nC, nD, nE, nF, nG, nH, iA, cast0, cast1, lA, lB, lC, lD, lE, mapV_nil, *]

def certificate_total_number (a0 : Int × Int) : Option (Int × Bool) :=
  if (decide ((-4194304 : Int) ≤ a0.1)) then
  some ((IntKind.i64.wrap ((IntKind.i64.wrap (a0.1 * (2 : Int) ^ min 40 (IntKind.bits .i64))) + a0.2)), (decide (a0.1 < (4194304 : Int))))
else
  some ((IntKind.i64.wrap ((IntKind.i64.wrap (a0.1 * (2 : Int) ^ min 40 (IntKind.bits .i64))) + a0.2)), false)
set_option maxHeartbeats 2000000 in
theorem certificate_total_number_ok {a0 : Int × Int} {r : Int × Bool} (hr : certificate_total_number a0 = some r) : Meets Try.prog 84 [.agg [.c (.int .i64 a0.1), .c (.int .i64 a0.2)]] (.tup [.c (.int .i64 r.1), .c (.bool r.2)]) := by
  unfold certificate_total_number at hr
  refine meetsV_of (X := true) Ty.mixed Try.func84 (by kernel_rfl) rfl (by kernel_rfl) (by simp) ?_; rw [Try.ntmps84, Try.results84]
  simp only [go_sem, ↓reduceIte, reduceCtorEq, nA, nB, nC, nD, nE, nF, nG, nH, iA, *]
  cases h575 : (decide ((-4194304 : Int) ≤ a0.1)) with
  | true =>
    simp only [h575, ↓reduceIte, Bool.false_eq_true] at hr
    refine drawS_tail (by kernel_rfl) ?_
    have g11 := (by decide : (0 : Int) ≤ 40)
    simp only [go_sem, ↓reduceIte, reduceCtorEq, nA, nB, nC, nD, nE, nF, nG, nH, iA, *]
    cases hr
    simp (maxDischargeDepth := 40) only [go_sem, ↓reduceIte, reduceCtorEq, nA, nB, nC, nD, nE, nF, nG, nH, iA, cast0, cast1, lA, lB, lC, lD, lE, mapV_nil, *]
  | false =>
    simp only [h575, ↓reduceIte, Bool.false_eq_true] at hr
    refine drawS_tail (by kernel_rfl) ?_
    have g12 := (by decide : (0 : Int) ≤ 40)
    simp only [go_sem, ↓reduceIte, reduceCtorEq, nA, nB, nC, nD, nE, nF, nG, nH, iA, *]
    cases hr
    simp (maxDischargeDepth := 40) only [go_sem, ↓reduceIte, reduceCtorEq, nA, nB, nC, nD, nE, nF, nG, nH, iA, cast0, cast1, lA, lB, lC, lD, lE, mapV_nil, *]

def certificate_combine (a0 : List (Bool × (Int × (List (ByteArray × Int))))) (a1 : List Int) : Option ((List (ByteArray × Int)) × Int × Int) :=
  if (((a1.length : Nat) : Int) != ((a0.length : Nat) : Int)) then
  some ([], (0 : Int), (18 : Int))
else
  (forC (R := (List (ByteArray × Int)) × Int × Int) (a1.length) (((0 : Int), (0 : Int), []) : Int × Int × (List (ByteArray × (Int × Int)))) fun k477 s476 =>
    (a1[k477]?).bind fun x485 =>
    if (decide (x485 < (-1000000000 : Int))) then
      some (.rt ([], (0 : Int), (18 : Int)))
    else
      if (decide ((1000000000 : Int) < x485)) then
        some (.rt ([], (0 : Int), (18 : Int)))
      else
        if (decide (x485 < (0 : Int))) then
          (a0[k477]?).bind fun x492 =>
          if x492.1 then
            (certificate_total_add (s476.1, s476.2.1) (IntKind.i64.wrap (x485 * x492.2.1))).bind fun y497 =>
            (forC (R := (List (ByteArray × Int)) × Int × Int) (x492.2.2.length) (s476.2.2 : (List (ByteArray × (Int × Int)))) fun k519 s518 =>
              (x492.2.2[k519]?).bind fun x527 =>
              (certificate_total_add (((mapG x527.1 s518).getD ((0 : Int), (0 : Int))).1, ((mapG x527.1 s518).getD ((0 : Int), (0 : Int))).2) (IntKind.i64.wrap (x485 * x527.2))).bind fun y531 =>
              some (.nx (mapP x527.1 y531 s518))).bind (Sum.elim (fun s518 =>
              some (.nx (y497.1, y497.2, s518))) (fun r => some (.rt r)))
          else
            some (.rt ([], (0 : Int), (18 : Int)))
        else
          (a0[k477]?).bind fun x534 =>
          (certificate_total_add (s476.1, s476.2.1) (IntKind.i64.wrap (x485 * x534.2.1))).bind fun y538 =>
          (forC (R := (List (ByteArray × Int)) × Int × Int) (x534.2.2.length) (s476.2.2 : (List (ByteArray × (Int × Int)))) fun k560 s559 =>
            (x534.2.2[k560]?).bind fun x568 =>
            (certificate_total_add (((mapG x568.1 s559).getD ((0 : Int), (0 : Int))).1, ((mapG x568.1 s559).getD ((0 : Int), (0 : Int))).2) (IntKind.i64.wrap (x485 * x568.2))).bind fun y572 =>
            some (.nx (mapP x568.1 y572 s559))).bind (Sum.elim (fun s559 =>
            some (.nx (y538.1, y538.2, s559))) (fun r => some (.rt r)))).bind (Sum.elim (fun s476 =>
    (certificate_total_number (s476.1, s476.2.1)).bind fun y576 =>
    iffO (mapOk s476.2.2)
      ((forC (R := (List (ByteArray × Int)) × Int × Int) (((mapKeys s476.2.2).length)) (([], y576.2) : (List (ByteArray × Int)) × Bool) fun k619 s618 =>
        ((mapKeys s476.2.2)[k619]?).bind fun x627 =>
        (certificate_total_number (((mapG x627 s476.2.2).getD ((0 : Int), (0 : Int))).1, ((mapG x627 s476.2.2).getD ((0 : Int), (0 : Int))).2)).bind fun y631 =>
        if s618.2 then
          if (y631.1 != (0 : Int)) then
            iffO (decide ((s618.1.length + 1) * 24 ≤ 140737488355328))
              (some (.nx ((s618.1 ++ [(x627, y631.1)]), y631.2)))
          else
            if y631.2 then
              some (.nx (s618.1, true))
            else
              iffO (decide ((s618.1.length + 1) * 24 ≤ 140737488355328))
                (some (.nx ((s618.1 ++ [(x627, y631.1)]), false)))
        else
          if (y631.1 != (0 : Int)) then
            iffO (decide ((s618.1.length + 1) * 24 ≤ 140737488355328))
              (some (.nx ((s618.1 ++ [(x627, y631.1)]), false)))
          else
            if y631.2 then
              some (.nx (s618.1, false))
            else
              iffO (decide ((s618.1.length + 1) * 24 ≤ 140737488355328))
                (some (.nx ((s618.1 ++ [(x627, y631.1)]), false)))).bind (Sum.elim (fun s618 =>
        if s618.2 then
          some (s618.1, y576.1, (0 : Int))
        else
          some ([], (0 : Int), (3 : Int))) some))) some)
set_option maxHeartbeats 2000000 in
theorem certificate_combine_ok {a0 : List (Bool × (Int × (List (ByteArray × Int))))} {a1 : List Int} {r : (List (ByteArray × Int)) × Int × Int} (hr : certificate_combine a0 a1 = some r) : Meets Try.prog 66 [.sl false 3 (a0.map e_api_Fact), .sl false 1 (a1.map e_int)] (.tup [.sl false 2 (r.1.map e_api_Coef), .c (.int .i64 r.2.1), .c (.int .i64 r.2.2)]) := by
  unfold certificate_combine at hr
  refine meetsV_of (X := true) Ty.mixed Try.func66 (by kernel_rfl) rfl (by kernel_rfl) (by simp) ?_; rw [Try.ntmps66, Try.results66]
  cases h313 : (((a1.length : Nat) : Int) != ((a0.length : Nat) : Int)) with
  | true =>
    simp only [h313, ↓reduceIte, Bool.false_eq_true] at hr
    simp only [go_sem, ↓reduceIte, reduceCtorEq, nA, nB, nC, nD, nE, nF, nG, nH, iA, *]
    cases hr
    simp (maxDischargeDepth := 40) only [go_sem, ↓reduceIte, reduceCtorEq, nA, nB, nC, nD, nE, nF, nG, nH, iA, cast0, cast1, lA, lB, lC, lD, lE, mapV_nil, *]
  | false =>
    simp only [h313, ↓reduceIte, Bool.false_eq_true] at hr
    simp only [go_sem, ↓reduceIte, reduceCtorEq, nA, nB, nC, nD, nE, nF, nG, nH, iA, *]
    refine loop_for hr (fun k477 s476 => ⟨125, [(0, .sl false 3 (a0.map e_api_Fact)), (4, .nils), (7, .ptr 0 0), (8, .mp 1), (24, .sl false 1 (a1.map e_int)), (25, .c (.int .i64 ((a1.length : Nat) : Int))), (26, .c (.int .i64 (k477 : Int)))], [some (.var 100 [.c (.int .i64 s476.1), .c (.int .i64 s476.2.1)]), some (.map .s (mapV (fun v => .agg [.c (.int .i64 v.1), .c (.int .i64 v.2)]) s476.2.2))]⟩) ?_ ?_ ?_
    · try dsimp only
      refine LeS.pick [some 0, some 1] rfl rfl ?_ ?_
      all_goals simp (maxDischargeDepth := 40) only [go_sem, ↓reduceIte, reduceCtorEq, nA, nB, nC, nD, nE, nF, nG, nH, iA, cast0, cast1, lA, lB, lC, lD, lE, mapV_nil, *]
    · intro k477 s476 qhc479 h480 h481 h482 h483 hq478 hc479 Khc479 hKhc479
      try dsimp only at hq478
      obtain ⟨x485, h486, r487⟩ := bindS hq478
      clear hq478
      try dsimp only at r487
      cases h489 : (decide (x485 < (-1000000000 : Int))) with
      | true =>
        simp only [h489, ↓reduceIte, Bool.false_eq_true] at r487
        have g13 := get_map e_int h486
        simp only [go_sem, ↓reduceIte, reduceCtorEq, nA, nB, nC, nD, nE, nF, nG, nH, iA, *]
        cases r487
        dsimp only [St.on, Sum.elim_inr] at hc479
        cases hc479
        simp (maxDischargeDepth := 40) only [go_sem, ↓reduceIte, reduceCtorEq, nA, nB, nC, nD, nE, nF, nG, nH, iA, cast0, cast1, lA, lB, lC, lD, lE, mapV_nil, *]
      | false =>
        simp only [h489, ↓reduceIte, Bool.false_eq_true] at r487
        cases h490 : (decide ((1000000000 : Int) < x485)) with
        | true =>
          simp only [h490, ↓reduceIte, Bool.false_eq_true] at r487
          have g14 := get_map e_int h486
          simp only [go_sem, ↓reduceIte, reduceCtorEq, nA, nB, nC, nD, nE, nF, nG, nH, iA, *]
          cases r487
          dsimp only [St.on, Sum.elim_inr] at hc479
          cases hc479
          simp (maxDischargeDepth := 40) only [go_sem, ↓reduceIte, reduceCtorEq, nA, nB, nC, nD, nE, nF, nG, nH, iA, cast0, cast1, lA, lB, lC, lD, lE, mapV_nil, *]
        | false =>
          simp only [h490, ↓reduceIte, Bool.false_eq_true] at r487
          cases h491 : (decide (x485 < (0 : Int))) with
          | true =>
            simp only [h491, ↓reduceIte, Bool.false_eq_true] at r487
            obtain ⟨x492, h493, r494⟩ := bindS r487
            clear r487
            try dsimp only at r494
            cases h496 : x492.1 with
            | true =>
              simp only [h496, ↓reduceIte, Bool.false_eq_true] at r494
              have g15 := get_map e_int h486
              have g16 := get_map e_api_Fact h493
              simp only [go_sem, ↓reduceIte, reduceCtorEq, nA, nB, nC, nD, nE, nF, nG, nH, iA, *]
              refine drawS_tail (by kernel_rfl) ?_
              simp only [go_sem, ↓reduceIte, reduceCtorEq, nA, nB, nC, nD, nE, nF, nG, nH, iA, *]
              obtain ⟨y497, h498, r499⟩ := bindS r494
              clear r494
              try dsimp only at r499
              refine calld_meets ((certificate_total_add_ok h498).le ?_) (by first | (simp only [go_sem, ↓reduceIte, reduceCtorEq, nA, nB, nC, nD, nE, nF, nG, nH, iA, *] <;> rfl) | rfl) (by simp only [go_sem, ↓reduceIte, reduceCtorEq, nA, nB, nC, nD, nE, nF, nG, nH, iA, *]) ?_
              · simp (maxDischargeDepth := 40) only [go_sem, ↓reduceIte, reduceCtorEq, nA, nB, nC, nD, nE, nF, nG, nH, iA, cast0, cast1, lA, lB, lC, lD, lE, mapV_nil, *]
              simp only [go_sem, ↓reduceIte, reduceCtorEq, nA, nB, nC, nD, nE, nF, nG, nH, iA, *]
              refine loop_for r499 (fun k519 s518 => ⟨125, [(0, .sl false 3 (a0.map e_api_Fact)), (4, .nils), (7, .ptr 0 0), (8, .mp 1), (10, .c (.int .i64 x485)), (24, .sl false 1 (a1.map e_int)), (25, .c (.int .i64 ((a1.length : Nat) : Int))), (26, .c (.int .i64 (k477 : Int))), (64, .sl false 2 (x492.2.2.map e_api_Coef)), (65, .c (.int .i64 ((x492.2.2.length : Nat) : Int))), (66, .c (.int .i64 (k519 : Int)))], [some (.var 100 [.c (.int .i64 y497.1), .c (.int .i64 y497.2)]), some (.map .s (mapV (fun v => .agg [.c (.int .i64 v.1), .c (.int .i64 v.2)]) s518))]⟩) ?_ ?_ ?_
              · try dsimp only
                refine LeS.pick [some 0, some 1] rfl rfl ?_ ?_
                all_goals simp (maxDischargeDepth := 40) only [go_sem, ↓reduceIte, reduceCtorEq, nA, nB, nC, nD, nE, nF, nG, nH, iA, cast0, cast1, lA, lB, lC, lD, lE, mapV_nil, *]
              · intro k519 s518 qhc521 h522 h523 h524 h525 hq520 hc521 Khc521 hKhc521
                try dsimp only at hq520
                obtain ⟨x527, h528, r529⟩ := bindS hq520
                clear hq520
                try dsimp only at r529
                have g17 := get_map e_api_Coef h528
                simp only [go_sem, ↓reduceIte, reduceCtorEq, nA, nB, nC, nD, nE, nF, nG, nH, iA, *]
                refine drawS_tail (by kernel_rfl) ?_
                have g18 := mapG_is (fun v => .agg [.c (.int .i64 v.1), .c (.int .i64 v.2)]) ((0 : Int), (0 : Int)) (.agg [.c (.int .i64 (0 : Int)), .c (.int .i64 (0 : Int))]) rfl
                simp only [go_sem, ↓reduceIte, reduceCtorEq, nA, nB, nC, nD, nE, nF, nG, nH, iA, List.all_toArray', *]
                obtain ⟨y531, h532, r533⟩ := bindS r529
                clear r529
                try dsimp only at r533
                have g19 := mapP_is (fun v => .agg [.c (.int .i64 v.1), .c (.int .i64 v.2)]) y531 (.agg [.c (.int .i64 y531.1), .c (.int .i64 y531.2)]) rfl
                refine calld_meets ((certificate_total_add_ok h532).le ?_) (by first | (simp only [go_sem, ↓reduceIte, reduceCtorEq, nA, nB, nC, nD, nE, nF, nG, nH, iA, List.all_toArray', *] <;> rfl) | rfl) (by simp only [go_sem, ↓reduceIte, reduceCtorEq, nA, nB, nC, nD, nE, nF, nG, nH, iA, List.all_toArray', *]) ?_
                · simp (maxDischargeDepth := 40) only [go_sem, ↓reduceIte, reduceCtorEq, nA, nB, nC, nD, nE, nF, nG, nH, iA, cast0, cast1, lA, lB, lC, lD, lE, mapV_nil, *]
                simp only [go_sem, ↓reduceIte, reduceCtorEq, nA, nB, nC, nD, nE, nF, nG, nH, iA, List.all_toArray', *]
                cases r533
                refine hKhc521 _ _ rfl ?_
                try dsimp only
                refine LeS.pick [some 0, some 1] rfl rfl ?_ ?_
                all_goals simp (maxDischargeDepth := 40) only [go_sem, ↓reduceIte, reduceCtorEq, nA, nB, nC, nD, nE, nF, nG, nH, iA, cast0, cast1, lA, lB, lC, lD, lE, mapV_nil, List.all_toArray', *]
              · clear r499
                intro s518 r499 h522 h526 Khc521
                dsimp only [Sum.elim_inl] at r499
                simp only [go_sem, ↓reduceIte, reduceCtorEq, nA, nB, nC, nD, nE, nF, nG, nH, iA, *]
                cases r499
                refine hKhc479 _ _ rfl ?_
                try dsimp only
                refine LeS.pick [some 0, some 1] rfl rfl ?_ ?_
                all_goals simp (maxDischargeDepth := 40) only [go_sem, ↓reduceIte, reduceCtorEq, nA, nB, nC, nD, nE, nF, nG, nH, iA, cast0, cast1, lA, lB, lC, lD, lE, mapV_nil, *]
            | false =>
              simp only [h496, ↓reduceIte, Bool.false_eq_true] at r494
              have g20 := get_map e_int h486
              have g21 := get_map e_api_Fact h493
              simp only [go_sem, ↓reduceIte, reduceCtorEq, nA, nB, nC, nD, nE, nF, nG, nH, iA, *]
              cases r494
              dsimp only [St.on, Sum.elim_inr] at hc479
              cases hc479
              simp (maxDischargeDepth := 40) only [go_sem, ↓reduceIte, reduceCtorEq, nA, nB, nC, nD, nE, nF, nG, nH, iA, cast0, cast1, lA, lB, lC, lD, lE, mapV_nil, *]
          | false =>
            simp only [h491, ↓reduceIte, Bool.false_eq_true] at r487
            have g22 := get_map e_int h486
            simp only [go_sem, ↓reduceIte, reduceCtorEq, nA, nB, nC, nD, nE, nF, nG, nH, iA, *]
            obtain ⟨x534, h535, r536⟩ := bindS r487
            clear r487
            try dsimp only at r536
            refine drawS_tail (by kernel_rfl) ?_
            have g23 := get_map e_api_Fact h535
            simp only [go_sem, ↓reduceIte, reduceCtorEq, nA, nB, nC, nD, nE, nF, nG, nH, iA, *]
            obtain ⟨y538, h539, r540⟩ := bindS r536
            clear r536
            try dsimp only at r540
            refine calld_meets ((certificate_total_add_ok h539).le ?_) (by first | (simp only [go_sem, ↓reduceIte, reduceCtorEq, nA, nB, nC, nD, nE, nF, nG, nH, iA, *] <;> rfl) | rfl) (by simp only [go_sem, ↓reduceIte, reduceCtorEq, nA, nB, nC, nD, nE, nF, nG, nH, iA, *]) ?_
            · simp (maxDischargeDepth := 40) only [go_sem, ↓reduceIte, reduceCtorEq, nA, nB, nC, nD, nE, nF, nG, nH, iA, cast0, cast1, lA, lB, lC, lD, lE, mapV_nil, *]
            simp only [go_sem, ↓reduceIte, reduceCtorEq, nA, nB, nC, nD, nE, nF, nG, nH, iA, *]
            refine loop_for r540 (fun k560 s559 => ⟨125, [(0, .sl false 3 (a0.map e_api_Fact)), (4, .nils), (7, .ptr 0 0), (8, .mp 1), (10, .c (.int .i64 x485)), (24, .sl false 1 (a1.map e_int)), (25, .c (.int .i64 ((a1.length : Nat) : Int))), (26, .c (.int .i64 (k477 : Int))), (64, .sl false 2 (x534.2.2.map e_api_Coef)), (65, .c (.int .i64 ((x534.2.2.length : Nat) : Int))), (66, .c (.int .i64 (k560 : Int)))], [some (.var 100 [.c (.int .i64 y538.1), .c (.int .i64 y538.2)]), some (.map .s (mapV (fun v => .agg [.c (.int .i64 v.1), .c (.int .i64 v.2)]) s559))]⟩) ?_ ?_ ?_
            · try dsimp only
              refine LeS.pick [some 0, some 1] rfl rfl ?_ ?_
              all_goals simp (maxDischargeDepth := 40) only [go_sem, ↓reduceIte, reduceCtorEq, nA, nB, nC, nD, nE, nF, nG, nH, iA, cast0, cast1, lA, lB, lC, lD, lE, mapV_nil, *]
            · intro k560 s559 qhc562 h563 h564 h565 h566 hq561 hc562 Khc562 hKhc562
              try dsimp only at hq561
              obtain ⟨x568, h569, r570⟩ := bindS hq561
              clear hq561
              try dsimp only at r570
              have g24 := get_map e_api_Coef h569
              simp only [go_sem, ↓reduceIte, reduceCtorEq, nA, nB, nC, nD, nE, nF, nG, nH, iA, *]
              refine drawS_tail (by kernel_rfl) ?_
              have g25 := mapG_is (fun v => .agg [.c (.int .i64 v.1), .c (.int .i64 v.2)]) ((0 : Int), (0 : Int)) (.agg [.c (.int .i64 (0 : Int)), .c (.int .i64 (0 : Int))]) rfl
              simp only [go_sem, ↓reduceIte, reduceCtorEq, nA, nB, nC, nD, nE, nF, nG, nH, iA, List.all_toArray', *]
              obtain ⟨y572, h573, r574⟩ := bindS r570
              clear r570
              try dsimp only at r574
              have g26 := mapP_is (fun v => .agg [.c (.int .i64 v.1), .c (.int .i64 v.2)]) y572 (.agg [.c (.int .i64 y572.1), .c (.int .i64 y572.2)]) rfl
              refine calld_meets ((certificate_total_add_ok h573).le ?_) (by first | (simp only [go_sem, ↓reduceIte, reduceCtorEq, nA, nB, nC, nD, nE, nF, nG, nH, iA, List.all_toArray', *] <;> rfl) | rfl) (by simp only [go_sem, ↓reduceIte, reduceCtorEq, nA, nB, nC, nD, nE, nF, nG, nH, iA, List.all_toArray', *]) ?_
              · simp (maxDischargeDepth := 40) only [go_sem, ↓reduceIte, reduceCtorEq, nA, nB, nC, nD, nE, nF, nG, nH, iA, cast0, cast1, lA, lB, lC, lD, lE, mapV_nil, *]
              simp only [go_sem, ↓reduceIte, reduceCtorEq, nA, nB, nC, nD, nE, nF, nG, nH, iA, List.all_toArray', *]
              cases r574
              refine hKhc562 _ _ rfl ?_
              try dsimp only
              refine LeS.pick [some 0, some 1] rfl rfl ?_ ?_
              all_goals simp (maxDischargeDepth := 40) only [go_sem, ↓reduceIte, reduceCtorEq, nA, nB, nC, nD, nE, nF, nG, nH, iA, cast0, cast1, lA, lB, lC, lD, lE, mapV_nil, List.all_toArray', *]
            · clear r540
              intro s559 r540 h563 h567 Khc562
              dsimp only [Sum.elim_inl] at r540
              simp only [go_sem, ↓reduceIte, reduceCtorEq, nA, nB, nC, nD, nE, nF, nG, nH, iA, *]
              cases r540
              refine hKhc479 _ _ rfl ?_
              try dsimp only
              refine LeS.pick [some 0, some 1] rfl rfl ?_ ?_
              all_goals simp (maxDischargeDepth := 40) only [go_sem, ↓reduceIte, reduceCtorEq, nA, nB, nC, nD, nE, nF, nG, nH, iA, cast0, cast1, lA, lB, lC, lD, lE, mapV_nil, *]
    · clear hr
      intro s476 hr h480 h484 Khc479
      dsimp only [Sum.elim_inl] at hr
      simp only [go_sem, ↓reduceIte, reduceCtorEq, nA, nB, nC, nD, nE, nF, nG, nH, iA, *]
      obtain ⟨y576, h577, r578⟩ := bindS hr
      clear hr
      try dsimp only at r578
      refine call_meets ((certificate_total_number_ok h577).le ?_) (by first | (simp only [go_sem, ↓reduceIte, reduceCtorEq, nA, nB, nC, nD, nE, nF, nG, nH, iA, *] <;> rfl) | rfl) ?_
      · simp (maxDischargeDepth := 40) only [go_sem, ↓reduceIte, reduceCtorEq, nA, nB, nC, nD, nE, nF, nG, nH, iA, cast0, cast1, lA, lB, lC, lD, lE, mapV_nil, *]
      simp only [go_sem, ↓reduceIte, reduceCtorEq, nA, nB, nC, nD, nE, nF, nG, nH, iA, *]
      refine call_inl (X := true) Ty.mixed Try.func86 (by kernel_rfl) rfl (by kernel_rfl) (by simp) ?_; rw [Try.ntmps86, Try.results86]; simp only [go_sem, ↓reduceIte, reduceCtorEq, nA, nB, nC, nD, nE, nF, nG, nH, iA, h313, h484, *]
      obtain ⟨h579, r580⟩ := iffO_some r578
      clear r578
      refine call_sortedM (hks_slices_Sorted_string_maps_Keys_map_string_framewise_certificate_total_string_framewise_certificate_total_1) (fun v => .agg [.c (.int .i64 v.1), .c (.int .i64 v.2)]) (L := 2) (M := 1) (t := 101) (by simp only [go_sem, ↓reduceIte, reduceCtorEq, nA, nB, nC, nD, nE, nF, nG, nH, iA, *]) (by simp only [go_sem, ↓reduceIte, reduceCtorEq, nA, nB, nC, nD, nE, nF, nG, nH, iA, *]) h579 ?_
      simp only [go_sem, ↓reduceIte, reduceCtorEq, nA, nB, nC, nD, nE, nF, nG, nH, iA, *]
      refine loop_for r580 (fun k619 s618 => ⟨125, [(4, .own 3 2 s618.1.length), (5, .c (.int .i64 y576.1)), (8, .mp 1), (13, .c (.bool s618.2)), (91, .sl false 1 ((mapKeys s476.2.2).map e_string)), (92, .c (.int .i64 ((((mapKeys s476.2.2).length) : Nat) : Int))), (93, .c (.int .i64 (k619 : Int)))], [some (.var 100 [.c (.int .i64 s476.1), .c (.int .i64 s476.2.1)]), some (.map .s (mapV (fun v => .agg [.c (.int .i64 v.1), .c (.int .i64 v.2)]) s476.2.2)), some (.var 101 [.mp 1]), some (.row 71 2 (s618.1.map e_api_Coef))]⟩) ?_ ?_ ?_
      · try dsimp only
        refine LeS.pick [some 0, some 1, some 2, none] rfl rfl ?_ ?_
        all_goals simp (maxDischargeDepth := 40) only [go_sem, ↓reduceIte, reduceCtorEq, nA, nB, nC, nD, nE, nF, nG, nH, iA, cast0, cast1, lA, lB, lC, lD, lE, mapV_nil, *]
      · intro k619 s618 qhc621 h622 h623 h624 h625 hq620 hc621 Khc621 hKhc621
        try dsimp only at hq620
        obtain ⟨x627, h628, r629⟩ := bindS hq620
        clear hq620
        try dsimp only at r629
        have g27 := get_map e_string h628
        have g28 := mapG_is (fun v => .agg [.c (.int .i64 v.1), .c (.int .i64 v.2)]) ((0 : Int), (0 : Int)) (.agg [.c (.int .i64 (0 : Int)), .c (.int .i64 (0 : Int))]) rfl
        simp only [go_sem, ↓reduceIte, reduceCtorEq, nA, nB, nC, nD, nE, nF, nG, nH, iA, List.all_toArray', *]
        obtain ⟨y631, h632, r633⟩ := bindS r629
        clear r629
        try dsimp only at r633
        cases h634 : s618.2 with
        | true =>
          simp only [h634, ↓reduceIte, Bool.false_eq_true] at r633
          cases h635 : (y631.1 != (0 : Int)) with
          | true =>
            simp only [h635, ↓reduceIte, Bool.false_eq_true] at r633
            obtain ⟨h636, r637⟩ := iffO_some r633
            clear r633
            simp only [Bool.and_eq_true, decide_eq_true_eq] at h636
            refine call_meets ((certificate_total_number_ok h632).le ?_) (by first | (simp only [go_sem, ↓reduceIte, reduceCtorEq, nA, nB, nC, nD, nE, nF, nG, nH, iA, List.all_toArray', *] <;> rfl) | rfl) ?_
            · simp (maxDischargeDepth := 40) only [go_sem, ↓reduceIte, reduceCtorEq, nA, nB, nC, nD, nE, nF, nG, nH, iA, cast0, cast1, lA, lB, lC, lD, lE, mapV_nil, *]
            simp only [go_sem, ↓reduceIte, reduceCtorEq, nA, nB, nC, nD, nE, nF, nG, nH, iA, List.all_toArray', *]
            repeat refine ⟨by first | omega | (simp only [List.length_append, List.length_cons, List.length_nil, List.length_map, Nat.zero_add] at *; omega), ?_⟩
            cases r637
            refine hKhc621 _ _ rfl ?_
            try dsimp only
            refine LeS.pick [some 0, some 1, some 2, some 3] rfl rfl ?_ ?_
            all_goals simp (maxDischargeDepth := 40) only [go_sem, ↓reduceIte, reduceCtorEq, nA, nB, nC, nD, nE, nF, nG, nH, iA, cast0, cast1, lA, lB, lC, lD, lE, mapV_nil, List.all_toArray', *]
          | false =>
            simp only [h635, ↓reduceIte, Bool.false_eq_true] at r633
            cases h638 : y631.2 with
            | true =>
              simp only [h638, ↓reduceIte, Bool.false_eq_true] at r633
              refine call_meets ((certificate_total_number_ok h632).le ?_) (by first | (simp only [go_sem, ↓reduceIte, reduceCtorEq, nA, nB, nC, nD, nE, nF, nG, nH, iA, List.all_toArray', *] <;> rfl) | rfl) ?_
              · simp (maxDischargeDepth := 40) only [go_sem, ↓reduceIte, reduceCtorEq, nA, nB, nC, nD, nE, nF, nG, nH, iA, cast0, cast1, lA, lB, lC, lD, lE, mapV_nil, *]
              simp only [go_sem, ↓reduceIte, reduceCtorEq, nA, nB, nC, nD, nE, nF, nG, nH, iA, List.all_toArray', *]
              cases r633
              refine hKhc621 _ _ rfl ?_
              try dsimp only
              refine LeS.pick [some 0, some 1, some 2, some 3] rfl rfl ?_ ?_
              all_goals simp (maxDischargeDepth := 40) only [go_sem, ↓reduceIte, reduceCtorEq, nA, nB, nC, nD, nE, nF, nG, nH, iA, cast0, cast1, lA, lB, lC, lD, lE, mapV_nil, List.all_toArray', *]
            | false =>
              simp only [h638, ↓reduceIte, Bool.false_eq_true] at r633
              obtain ⟨h639, r640⟩ := iffO_some r633
              clear r633
              simp only [Bool.and_eq_true, decide_eq_true_eq] at h639
              refine call_meets ((certificate_total_number_ok h632).le ?_) (by first | (simp only [go_sem, ↓reduceIte, reduceCtorEq, nA, nB, nC, nD, nE, nF, nG, nH, iA, List.all_toArray', *] <;> rfl) | rfl) ?_
              · simp (maxDischargeDepth := 40) only [go_sem, ↓reduceIte, reduceCtorEq, nA, nB, nC, nD, nE, nF, nG, nH, iA, cast0, cast1, lA, lB, lC, lD, lE, mapV_nil, *]
              simp only [go_sem, ↓reduceIte, reduceCtorEq, nA, nB, nC, nD, nE, nF, nG, nH, iA, List.all_toArray', *]
              repeat refine ⟨by first | omega | (simp only [List.length_append, List.length_cons, List.length_nil, List.length_map, Nat.zero_add] at *; omega), ?_⟩
              cases r640
              refine hKhc621 _ _ rfl ?_
              try dsimp only
              refine LeS.pick [some 0, some 1, some 2, some 3] rfl rfl ?_ ?_
              all_goals simp (maxDischargeDepth := 40) only [go_sem, ↓reduceIte, reduceCtorEq, nA, nB, nC, nD, nE, nF, nG, nH, iA, cast0, cast1, lA, lB, lC, lD, lE, mapV_nil, List.all_toArray', *]
        | false =>
          simp only [h634, ↓reduceIte, Bool.false_eq_true] at r633
          cases h641 : (y631.1 != (0 : Int)) with
          | true =>
            simp only [h641, ↓reduceIte, Bool.false_eq_true] at r633
            obtain ⟨h642, r643⟩ := iffO_some r633
            clear r633
            simp only [Bool.and_eq_true, decide_eq_true_eq] at h642
            refine call_meets ((certificate_total_number_ok h632).le ?_) (by first | (simp only [go_sem, ↓reduceIte, reduceCtorEq, nA, nB, nC, nD, nE, nF, nG, nH, iA, List.all_toArray', *] <;> rfl) | rfl) ?_
            · simp (maxDischargeDepth := 40) only [go_sem, ↓reduceIte, reduceCtorEq, nA, nB, nC, nD, nE, nF, nG, nH, iA, cast0, cast1, lA, lB, lC, lD, lE, mapV_nil, *]
            simp only [go_sem, ↓reduceIte, reduceCtorEq, nA, nB, nC, nD, nE, nF, nG, nH, iA, List.all_toArray', *]
            repeat refine ⟨by first | omega | (simp only [List.length_append, List.length_cons, List.length_nil, List.length_map, Nat.zero_add] at *; omega), ?_⟩
            cases r643
            refine hKhc621 _ _ rfl ?_
            try dsimp only
            refine LeS.pick [some 0, some 1, some 2, some 3] rfl rfl ?_ ?_
            all_goals simp (maxDischargeDepth := 40) only [go_sem, ↓reduceIte, reduceCtorEq, nA, nB, nC, nD, nE, nF, nG, nH, iA, cast0, cast1, lA, lB, lC, lD, lE, mapV_nil, List.all_toArray', *]
          | false =>
            simp only [h641, ↓reduceIte, Bool.false_eq_true] at r633
            cases h644 : y631.2 with
            | true =>
              simp only [h644, ↓reduceIte, Bool.false_eq_true] at r633
              refine call_meets ((certificate_total_number_ok h632).le ?_) (by first | (simp only [go_sem, ↓reduceIte, reduceCtorEq, nA, nB, nC, nD, nE, nF, nG, nH, iA, List.all_toArray', *] <;> rfl) | rfl) ?_
              · simp (maxDischargeDepth := 40) only [go_sem, ↓reduceIte, reduceCtorEq, nA, nB, nC, nD, nE, nF, nG, nH, iA, cast0, cast1, lA, lB, lC, lD, lE, mapV_nil, *]
              simp only [go_sem, ↓reduceIte, reduceCtorEq, nA, nB, nC, nD, nE, nF, nG, nH, iA, List.all_toArray', *]
              cases r633
              refine hKhc621 _ _ rfl ?_
              try dsimp only
              refine LeS.pick [some 0, some 1, some 2, some 3] rfl rfl ?_ ?_
              all_goals simp (maxDischargeDepth := 40) only [go_sem, ↓reduceIte, reduceCtorEq, nA, nB, nC, nD, nE, nF, nG, nH, iA, cast0, cast1, lA, lB, lC, lD, lE, mapV_nil, List.all_toArray', *]
            | false =>
              simp only [h644, ↓reduceIte, Bool.false_eq_true] at r633
              obtain ⟨h645, r646⟩ := iffO_some r633
              clear r633
              simp only [Bool.and_eq_true, decide_eq_true_eq] at h645
              refine call_meets ((certificate_total_number_ok h632).le ?_) (by first | (simp only [go_sem, ↓reduceIte, reduceCtorEq, nA, nB, nC, nD, nE, nF, nG, nH, iA, List.all_toArray', *] <;> rfl) | rfl) ?_
              · simp (maxDischargeDepth := 40) only [go_sem, ↓reduceIte, reduceCtorEq, nA, nB, nC, nD, nE, nF, nG, nH, iA, cast0, cast1, lA, lB, lC, lD, lE, mapV_nil, *]
              simp only [go_sem, ↓reduceIte, reduceCtorEq, nA, nB, nC, nD, nE, nF, nG, nH, iA, List.all_toArray', *]
              repeat refine ⟨by first | omega | (simp only [List.length_append, List.length_cons, List.length_nil, List.length_map, Nat.zero_add] at *; omega), ?_⟩
              cases r646
              refine hKhc621 _ _ rfl ?_
              try dsimp only
              refine LeS.pick [some 0, some 1, some 2, some 3] rfl rfl ?_ ?_
              all_goals simp (maxDischargeDepth := 40) only [go_sem, ↓reduceIte, reduceCtorEq, nA, nB, nC, nD, nE, nF, nG, nH, iA, cast0, cast1, lA, lB, lC, lD, lE, mapV_nil, List.all_toArray', *]
      · clear r580
        intro s618 r580 h622 h626 Khc621
        dsimp only [Sum.elim_inl] at r580
        cases h647 : s618.2 with
        | true =>
          simp only [h647, ↓reduceIte, Bool.false_eq_true] at r580
          simp only [go_sem, ↓reduceIte, reduceCtorEq, nA, nB, nC, nD, nE, nF, nG, nH, iA, *]
          cases r580
          simp (maxDischargeDepth := 40) only [go_sem, ↓reduceIte, reduceCtorEq, nA, nB, nC, nD, nE, nF, nG, nH, iA, cast0, cast1, lA, lB, lC, lD, lE, mapV_nil, *]
        | false =>
          simp only [h647, ↓reduceIte, Bool.false_eq_true] at r580
          simp only [go_sem, ↓reduceIte, reduceCtorEq, nA, nB, nC, nD, nE, nF, nG, nH, iA, *]
          cases r580
          simp (maxDischargeDepth := 40) only [go_sem, ↓reduceIte, reduceCtorEq, nA, nB, nC, nD, nE, nF, nG, nH, iA, cast0, cast1, lA, lB, lC, lD, lE, mapV_nil, *]

def intmath_within (a0 : List Int) : Option Bool :=
  (forC (R := Bool) (a0.length) (() : Unit) fun k681 s680 =>
  (a0[k681]?).bind fun x689 =>
  if (decide (x689 < (-4611686018427387904 : Int))) then
    some (.rt false)
  else
    if (decide ((4611686018427387904 : Int) < x689)) then
      some (.rt false)
    else
      some (.nx ())).bind (Sum.elim (fun s680 =>
  some true) some)
set_option maxHeartbeats 2000000 in
theorem intmath_within_ok {a0 : List Int} {r : Bool} (hr : intmath_within a0 = some r) : Meets Try.prog 102 [.sl false 1 (a0.map e_int)] (.c (.bool r)) := by
  unfold intmath_within at hr
  refine meetsV_of (X := true) Ty.mixed Try.func102 (by kernel_rfl) rfl (by kernel_rfl) (by simp) ?_; rw [Try.ntmps102, Try.results102]
  simp only [go_sem, ↓reduceIte, reduceCtorEq, nA, nB, nC, nD, nE, nF, nG, nH, iA, *]
  refine loop_for hr (fun k681 s680 => ⟨18, [(5, .sl false 1 (a0.map e_int)), (6, .c (.int .i64 ((a0.length : Nat) : Int))), (7, .c (.int .i64 (k681 : Int)))], []⟩) ?_ ?_ ?_
  · try dsimp only
    refine LeS.pick [] rfl rfl ?_ ?_
    all_goals simp (maxDischargeDepth := 40) only [go_sem, ↓reduceIte, reduceCtorEq, nA, nB, nC, nD, nE, nF, nG, nH, iA, cast0, cast1, lA, lB, lC, lD, lE, mapV_nil, *]
  · intro k681 s680 qhc683 h684 h685 h686 h687 hq682 hc683 Khc683 hKhc683
    try dsimp only at hq682
    obtain ⟨x689, h690, r691⟩ := bindS hq682
    clear hq682
    try dsimp only at r691
    cases h693 : (decide (x689 < (-4611686018427387904 : Int))) with
    | true =>
      simp only [h693, ↓reduceIte, Bool.false_eq_true] at r691
      have g29 := get_map e_int h690
      simp only [go_sem, ↓reduceIte, reduceCtorEq, nA, nB, nC, nD, nE, nF, nG, nH, iA, *]
      cases r691
      dsimp only [St.on, Sum.elim_inr] at hc683
      cases hc683
      simp (maxDischargeDepth := 40) only [go_sem, ↓reduceIte, reduceCtorEq, nA, nB, nC, nD, nE, nF, nG, nH, iA, cast0, cast1, lA, lB, lC, lD, lE, mapV_nil, *]
    | false =>
      simp only [h693, ↓reduceIte, Bool.false_eq_true] at r691
      cases h694 : (decide ((4611686018427387904 : Int) < x689)) with
      | true =>
        simp only [h694, ↓reduceIte, Bool.false_eq_true] at r691
        have g30 := get_map e_int h690
        simp only [go_sem, ↓reduceIte, reduceCtorEq, nA, nB, nC, nD, nE, nF, nG, nH, iA, *]
        cases r691
        dsimp only [St.on, Sum.elim_inr] at hc683
        cases hc683
        simp (maxDischargeDepth := 40) only [go_sem, ↓reduceIte, reduceCtorEq, nA, nB, nC, nD, nE, nF, nG, nH, iA, cast0, cast1, lA, lB, lC, lD, lE, mapV_nil, *]
      | false =>
        simp only [h694, ↓reduceIte, Bool.false_eq_true] at r691
        have g31 := get_map e_int h690
        simp only [go_sem, ↓reduceIte, reduceCtorEq, nA, nB, nC, nD, nE, nF, nG, nH, iA, *]
        cases r691
        refine hKhc683 _ _ rfl ?_
        try dsimp only
        refine LeS.pick [] rfl rfl ?_ ?_
        all_goals simp (maxDischargeDepth := 40) only [go_sem, ↓reduceIte, reduceCtorEq, nA, nB, nC, nD, nE, nF, nG, nH, iA, cast0, cast1, lA, lB, lC, lD, lE, mapV_nil, *]
  · clear hr
    intro s680 hr h684 h688 Khc683
    dsimp only [Sum.elim_inl] at hr
    simp only [go_sem, ↓reduceIte, reduceCtorEq, nA, nB, nC, nD, nE, nF, nG, nH, iA, *]
    cases hr
    simp (maxDischargeDepth := 40) only [go_sem, ↓reduceIte, reduceCtorEq, nA, nB, nC, nD, nE, nF, nG, nH, iA, cast0, cast1, lA, lB, lC, lD, lE, mapV_nil, *]

def intmath_sign (a0 : Int) : Option Int :=
  if (decide (a0 < (0 : Int))) then
  some (-1 : Int)
else
  if (decide ((0 : Int) < a0)) then
    some (1 : Int)
  else
    some (0 : Int)
set_option maxHeartbeats 2000000 in
theorem intmath_sign_ok {a0 : Int} {r : Int} (hr : intmath_sign a0 = some r) : Meets Try.prog 104 [.c (.int .i64 a0)] (.c (.int .i64 r)) := by
  unfold intmath_sign at hr
  refine meetsV_of (X := true) Ty.mixed Try.func104 (by kernel_rfl) rfl (by kernel_rfl) (by simp) ?_; rw [Try.ntmps104, Try.results104]
  cases h724 : (decide (a0 < (0 : Int))) with
  | true =>
    simp only [h724, ↓reduceIte, Bool.false_eq_true] at hr
    simp only [go_sem, ↓reduceIte, reduceCtorEq, nA, nB, nC, nD, nE, nF, nG, nH, iA, *]
    cases hr
    simp (maxDischargeDepth := 40) only [go_sem, ↓reduceIte, reduceCtorEq, nA, nB, nC, nD, nE, nF, nG, nH, iA, cast0, cast1, lA, lB, lC, lD, lE, mapV_nil, *]
  | false =>
    simp only [h724, ↓reduceIte, Bool.false_eq_true] at hr
    cases h725 : (decide ((0 : Int) < a0)) with
    | true =>
      simp only [h725, ↓reduceIte, Bool.false_eq_true] at hr
      simp only [go_sem, ↓reduceIte, reduceCtorEq, nA, nB, nC, nD, nE, nF, nG, nH, iA, *]
      cases hr
      simp (maxDischargeDepth := 40) only [go_sem, ↓reduceIte, reduceCtorEq, nA, nB, nC, nD, nE, nF, nG, nH, iA, cast0, cast1, lA, lB, lC, lD, lE, mapV_nil, *]
    | false =>
      simp only [h725, ↓reduceIte, Bool.false_eq_true] at hr
      simp only [go_sem, ↓reduceIte, reduceCtorEq, nA, nB, nC, nD, nE, nF, nG, nH, iA, *]
      cases hr
      simp (maxDischargeDepth := 40) only [go_sem, ↓reduceIte, reduceCtorEq, nA, nB, nC, nD, nE, nF, nG, nH, iA, cast0, cast1, lA, lB, lC, lD, lE, mapV_nil, *]

def intmath_abs (a0 : Int) : Option Int :=
  (intmath_sign a0).bind fun y726 =>
some (IntKind.i64.wrap (a0 * y726))
set_option maxHeartbeats 2000000 in
theorem intmath_abs_ok {a0 : Int} {r : Int} (hr : intmath_abs a0 = some r) : Meets Try.prog 110 [.c (.int .i64 a0)] (.c (.int .i64 r)) := by
  unfold intmath_abs at hr
  refine meetsV_of (X := true) Ty.mixed Try.func110 (by kernel_rfl) rfl (by kernel_rfl) (by simp) ?_; rw [Try.ntmps110, Try.results110]
  simp only [go_sem, ↓reduceIte, reduceCtorEq, nA, nB, nC, nD, nE, nF, nG, nH, iA, *]
  obtain ⟨y726, h727, r728⟩ := bindS hr
  clear hr
  try dsimp only at r728
  refine call_meets ((intmath_sign_ok h727).le ?_) (by first | (simp only [go_sem, ↓reduceIte, reduceCtorEq, nA, nB, nC, nD, nE, nF, nG, nH, iA, *] <;> rfl) | rfl) ?_
  · simp (maxDischargeDepth := 40) only [go_sem, ↓reduceIte, reduceCtorEq, nA, nB, nC, nD, nE, nF, nG, nH, iA, cast0, cast1, lA, lB, lC, lD, lE, mapV_nil, *]
  simp only [go_sem, ↓reduceIte, reduceCtorEq, nA, nB, nC, nD, nE, nF, nG, nH, iA, *]
  cases r728
  simp (maxDischargeDepth := 40) only [go_sem, ↓reduceIte, reduceCtorEq, nA, nB, nC, nD, nE, nF, nG, nH, iA, cast0, cast1, lA, lB, lC, lD, lE, mapV_nil, *]

def intmath_gcd (a0 : Int) (a1 : Int) : Option Int :=
  (whlC (R := Int) ((a0, a1) : Int × Int) fun s712 =>
  if (s712.2 != (0 : Int)) then
    iffO (decide (s712.2 ≠ 0))
      (some (.nx (s712.2, (s712.1.tmod s712.2))))
  else
    some (.br (s712.1, s712.2))).bind (Sum.elim (fun s712 =>
  (intmath_abs s712.1).bind fun y732 =>
  some y732) some)
set_option maxHeartbeats 2000000 in
theorem intmath_gcd_ok {a0 : Int} {a1 : Int} {r : Int} (hr : intmath_gcd a0 a1 = some r) : Meets Try.prog 103 [.c (.int .i64 a0), .c (.int .i64 a1)] (.c (.int .i64 r)) := by
  unfold intmath_gcd at hr
  refine meetsV_of (X := true) Ty.mixed Try.func103 (by kernel_rfl) rfl (by kernel_rfl) (by simp) ?_; rw [Try.ntmps103, Try.results103]
  simp only [go_sem, ↓reduceIte, reduceCtorEq, nA, nB, nC, nD, nE, nF, nG, nH, iA, *]
  refine loop_whl hr (fun s712 => ⟨13, [(0, .c (.int .i64 s712.1)), (1, .c (.int .i64 s712.2))], []⟩) ?_ ?_
  · try dsimp only
    refine LeS.pick [] rfl rfl ?_ ?_
    all_goals simp (maxDischargeDepth := 40) only [go_sem, ↓reduceIte, reduceCtorEq, nA, nB, nC, nD, nE, nF, nG, nH, iA, cast0, cast1, lA, lB, lC, lD, lE, mapV_nil, *]
  · intro s712 qhc715 hq714 hc715 Khc715 hKhc715
    try dsimp only at hq714
    cases h721 : (s712.2 != (0 : Int)) with
    | true =>
      simp only [h721, ↓reduceIte, Bool.false_eq_true] at hq714
      simp only [go_sem, ↓reduceIte, reduceCtorEq, nA, nB, nC, nD, nE, nF, nG, nH, iA, *]
      obtain ⟨h722, r723⟩ := iffO_some hq714
      clear hq714
      simp only [Bool.and_eq_true, decide_eq_true_eq] at h722
      refine drawS_tail (by kernel_rfl) ?_
      simp only [go_sem, ↓reduceIte, reduceCtorEq, nA, nB, nC, nD, nE, nF, nG, nH, iA, *]
      cases r723
      refine hKhc715 _ _ rfl ?_
      try dsimp only
      refine LeS.pick [] rfl rfl ?_ ?_
      all_goals simp (maxDischargeDepth := 40) only [go_sem, ↓reduceIte, reduceCtorEq, nA, nB, nC, nD, nE, nF, nG, nH, iA, cast0, cast1, lA, lB, lC, lD, lE, mapV_nil, *]
    | false =>
      simp only [h721, ↓reduceIte, Bool.false_eq_true] at hq714
      cases hq714
      dsimp only [St.on, Sum.elim_inl] at hc715
      simp only [go_sem, ↓reduceIte, reduceCtorEq, nA, nB, nC, nD, nE, nF, nG, nH, iA, *]
      obtain ⟨y729, h730, r731⟩ := bindS hc715
      clear hc715
      try dsimp only at r731
      refine call_meets ((intmath_abs_ok h730).le ?_) (by first | (simp only [go_sem, ↓reduceIte, reduceCtorEq, nA, nB, nC, nD, nE, nF, nG, nH, iA, *] <;> rfl) | rfl) ?_
      · simp (maxDischargeDepth := 40) only [go_sem, ↓reduceIte, reduceCtorEq, nA, nB, nC, nD, nE, nF, nG, nH, iA, cast0, cast1, lA, lB, lC, lD, lE, mapV_nil, *]
      simp only [go_sem, ↓reduceIte, reduceCtorEq, nA, nB, nC, nD, nE, nF, nG, nH, iA, *]
      cases r731
      simp (maxDischargeDepth := 40) only [go_sem, ↓reduceIte, reduceCtorEq, nA, nB, nC, nD, nE, nF, nG, nH, iA, cast0, cast1, lA, lB, lC, lD, lE, mapV_nil, *]

def intmath_Gcds (a0 : List Int) : Option (Int × Int) :=
  (intmath_within a0).bind fun y695 =>
if y695 then
  (forC (R := Int × Int) (a0.length) ((0 : Int) : Int) fun k749 s748 =>
    (a0[k749]?).bind fun x757 =>
    (intmath_gcd s748 x757).bind fun y761 =>
    some (.nx y761)).bind (Sum.elim (fun s748 =>
    some (s748, (0 : Int))) some)
else
  some ((0 : Int), (2 : Int))
set_option maxHeartbeats 2000000 in
theorem intmath_Gcds_ok {a0 : List Int} {r : Int × Int} (hr : intmath_Gcds a0 = some r) : Meets Try.prog 87 [.sl false 1 (a0.map e_int)] (.tup [.c (.int .i64 r.1), .c (.int .i64 r.2)]) := by
  unfold intmath_Gcds at hr
  refine meetsV_of (X := true) Ty.mixed Try.func87 (by kernel_rfl) rfl (by kernel_rfl) (by simp) ?_; rw [Try.ntmps87, Try.results87]
  simp only [go_sem, ↓reduceIte, reduceCtorEq, nA, nB, nC, nD, nE, nF, nG, nH, iA, *]
  obtain ⟨y695, h696, r697⟩ := bindS hr
  clear hr
  try dsimp only at r697
  cases h698 : y695 with
  | true =>
    simp only [h698, ↓reduceIte, Bool.false_eq_true] at r697
    refine call_meets ((intmath_within_ok h696).le ?_) (by first | (simp only [go_sem, ↓reduceIte, reduceCtorEq, nA, nB, nC, nD, nE, nF, nG, nH, iA, *] <;> rfl) | rfl) ?_
    · simp (maxDischargeDepth := 40) only [go_sem, ↓reduceIte, reduceCtorEq, nA, nB, nC, nD, nE, nF, nG, nH, iA, cast0, cast1, lA, lB, lC, lD, lE, mapV_nil, *]
    simp only [go_sem, ↓reduceIte, reduceCtorEq, nA, nB, nC, nD, nE, nF, nG, nH, iA, *]
    refine loop_for r697 (fun k749 s748 => ⟨21, [(4, .c (.int .i64 s748)), (10, .sl false 1 (a0.map e_int)), (11, .c (.int .i64 ((a0.length : Nat) : Int))), (12, .c (.int .i64 (k749 : Int)))], []⟩) ?_ ?_ ?_
    · try dsimp only
      refine LeS.pick [] rfl rfl ?_ ?_
      all_goals simp (maxDischargeDepth := 40) only [go_sem, ↓reduceIte, reduceCtorEq, nA, nB, nC, nD, nE, nF, nG, nH, iA, cast0, cast1, lA, lB, lC, lD, lE, mapV_nil, *]
    · intro k749 s748 qhc751 h752 h753 h754 h755 hq750 hc751 Khc751 hKhc751
      try dsimp only at hq750
      obtain ⟨x757, h758, r759⟩ := bindS hq750
      clear hq750
      try dsimp only at r759
      have g32 := get_map e_int h758
      simp only [go_sem, ↓reduceIte, reduceCtorEq, nA, nB, nC, nD, nE, nF, nG, nH, iA, *]
      obtain ⟨y761, h762, r763⟩ := bindS r759
      clear r759
      try dsimp only at r763
      refine call_meets ((intmath_gcd_ok h762).le ?_) (by first | (simp only [go_sem, ↓reduceIte, reduceCtorEq, nA, nB, nC, nD, nE, nF, nG, nH, iA, *] <;> rfl) | rfl) ?_
      · simp (maxDischargeDepth := 40) only [go_sem, ↓reduceIte, reduceCtorEq, nA, nB, nC, nD, nE, nF, nG, nH, iA, cast0, cast1, lA, lB, lC, lD, lE, mapV_nil, *]
      simp only [go_sem, ↓reduceIte, reduceCtorEq, nA, nB, nC, nD, nE, nF, nG, nH, iA, *]
      cases r763
      refine hKhc751 _ _ rfl ?_
      try dsimp only
      refine LeS.pick [] rfl rfl ?_ ?_
      all_goals simp (maxDischargeDepth := 40) only [go_sem, ↓reduceIte, reduceCtorEq, nA, nB, nC, nD, nE, nF, nG, nH, iA, cast0, cast1, lA, lB, lC, lD, lE, mapV_nil, *]
    · clear r697
      intro s748 r697 h752 h756 Khc751
      dsimp only [Sum.elim_inl] at r697
      simp only [go_sem, ↓reduceIte, reduceCtorEq, nA, nB, nC, nD, nE, nF, nG, nH, iA, *]
      cases r697
      simp (maxDischargeDepth := 40) only [go_sem, ↓reduceIte, reduceCtorEq, nA, nB, nC, nD, nE, nF, nG, nH, iA, cast0, cast1, lA, lB, lC, lD, lE, mapV_nil, *]
  | false =>
    simp only [h698, ↓reduceIte, Bool.false_eq_true] at r697
    refine call_meets ((intmath_within_ok h696).le ?_) (by first | (simp only [go_sem, ↓reduceIte, reduceCtorEq, nA, nB, nC, nD, nE, nF, nG, nH, iA, *] <;> rfl) | rfl) ?_
    · simp (maxDischargeDepth := 40) only [go_sem, ↓reduceIte, reduceCtorEq, nA, nB, nC, nD, nE, nF, nG, nH, iA, cast0, cast1, lA, lB, lC, lD, lE, mapV_nil, *]
    simp only [go_sem, ↓reduceIte, reduceCtorEq, nA, nB, nC, nD, nE, nF, nG, nH, iA, *]
    cases r697
    simp (maxDischargeDepth := 40) only [go_sem, ↓reduceIte, reduceCtorEq, nA, nB, nC, nD, nE, nF, nG, nH, iA, cast0, cast1, lA, lB, lC, lD, lE, mapV_nil, *]

def intmath_Gcd (a0 : Int) (a1 : Int) : Option (Int × Int) :=
  (intmath_Gcds [a0, a1]).bind fun y764 =>
some (y764.1, y764.2)
set_option maxHeartbeats 2000000 in
theorem intmath_Gcd_ok {a0 : Int} {a1 : Int} {r : Int × Int} (hr : intmath_Gcd a0 a1 = some r) : Meets Try.prog 68 [.c (.int .i64 a0), .c (.int .i64 a1)] (.tup [.c (.int .i64 r.1), .c (.int .i64 r.2)]) := by
  unfold intmath_Gcd at hr
  refine meetsV_of (X := true) Ty.mixed Try.func68 (by kernel_rfl) rfl (by kernel_rfl) (by simp) ?_; rw [Try.ntmps68, Try.results68]
  simp only [go_sem, ↓reduceIte, reduceCtorEq, nA, nB, nC, nD, nE, nF, nG, nH, iA, *]
  obtain ⟨y764, h765, r766⟩ := bindS hr
  clear hr
  try dsimp only at r766
  refine call_meets ((intmath_Gcds_ok h765).le ?_) (by first | (simp only [go_sem, ↓reduceIte, reduceCtorEq, nA, nB, nC, nD, nE, nF, nG, nH, iA, *] <;> rfl) | rfl) ?_
  · simp (maxDischargeDepth := 40) only [go_sem, ↓reduceIte, reduceCtorEq, nA, nB, nC, nD, nE, nF, nG, nH, iA, cast0, cast1, lA, lB, lC, lD, lE, mapV_nil, *]
  simp only [go_sem, ↓reduceIte, reduceCtorEq, nA, nB, nC, nD, nE, nF, nG, nH, iA, *]
  cases r766
  simp (maxDischargeDepth := 40) only [go_sem, ↓reduceIte, reduceCtorEq, nA, nB, nC, nD, nE, nF, nG, nH, iA, cast0, cast1, lA, lB, lC, lD, lE, mapV_nil, *]

def intmath_divide (a0 : Int) (a1 : Int) : Option (Int × Int × Int × Int) :=
  (intmath_within [a0, a1]).bind fun y796 =>
if y796 then
  if (a1 == (0 : Int)) then
    some ((0 : Int), (0 : Int), (0 : Int), (1 : Int))
  else
    iffO (decide (a1 ≠ 0))
      (iffO (decide (a1 ≠ 0))
        ((intmath_sign (a0.tmod a1)).bind fun y805 =>
        (intmath_sign a1).bind fun y808 =>
        if ((IntKind.i64.wrap (y805 * y808)) == (1 : Int)) then
          some ((IntKind.i64.wrap (a0.tdiv a1)), (a0.tmod a1), (IntKind.i64.wrap ((IntKind.i64.wrap (a0.tdiv a1)) + (1 : Int))), (0 : Int))
        else
          if ((IntKind.i64.wrap (y805 * y808)) == (-1 : Int)) then
            some ((IntKind.i64.wrap ((IntKind.i64.wrap (a0.tdiv a1)) - (1 : Int))), (IntKind.i64.wrap ((a0.tmod a1) + a1)), (IntKind.i64.wrap (a0.tdiv a1)), (0 : Int))
          else
            some ((IntKind.i64.wrap (a0.tdiv a1)), (0 : Int), (IntKind.i64.wrap (a0.tdiv a1)), (0 : Int))))
else
  some ((0 : Int), (0 : Int), (0 : Int), (2 : Int))
set_option maxHeartbeats 2000000 in
theorem intmath_divide_ok {a0 : Int} {a1 : Int} {r : Int × Int × Int × Int} (hr : intmath_divide a0 a1 = some r) : Meets Try.prog 88 [.c (.int .i64 a0), .c (.int .i64 a1)] (.tup [.c (.int .i64 r.1), .c (.int .i64 r.2.1), .c (.int .i64 r.2.2.1), .c (.int .i64 r.2.2.2)]) := by
  unfold intmath_divide at hr
  refine meetsV_of (X := true) Ty.mixed Try.func88 (by kernel_rfl) rfl (by kernel_rfl) (by simp) ?_; rw [Try.ntmps88, Try.results88]
  simp only [go_sem, ↓reduceIte, reduceCtorEq, nA, nB, nC, nD, nE, nF, nG, nH, iA, *]
  obtain ⟨y796, h797, r798⟩ := bindS hr
  clear hr
  try dsimp only at r798
  cases h799 : y796 with
  | true =>
    simp only [h799, ↓reduceIte, Bool.false_eq_true] at r798
    cases h800 : (a1 == (0 : Int)) with
    | true =>
      simp only [h800, ↓reduceIte, Bool.false_eq_true] at r798
      refine call_meets ((intmath_within_ok h797).le ?_) (by first | (simp only [go_sem, ↓reduceIte, reduceCtorEq, nA, nB, nC, nD, nE, nF, nG, nH, iA, *] <;> rfl) | rfl) ?_
      · simp (maxDischargeDepth := 40) only [go_sem, ↓reduceIte, reduceCtorEq, nA, nB, nC, nD, nE, nF, nG, nH, iA, cast0, cast1, lA, lB, lC, lD, lE, mapV_nil, *]
      simp only [go_sem, ↓reduceIte, reduceCtorEq, nA, nB, nC, nD, nE, nF, nG, nH, iA, *]
      cases r798
      simp (maxDischargeDepth := 40) only [go_sem, ↓reduceIte, reduceCtorEq, nA, nB, nC, nD, nE, nF, nG, nH, iA, cast0, cast1, lA, lB, lC, lD, lE, mapV_nil, *]
    | false =>
      simp only [h800, ↓reduceIte, Bool.false_eq_true] at r798
      refine call_meets ((intmath_within_ok h797).le ?_) (by first | (simp only [go_sem, ↓reduceIte, reduceCtorEq, nA, nB, nC, nD, nE, nF, nG, nH, iA, *] <;> rfl) | rfl) ?_
      · simp (maxDischargeDepth := 40) only [go_sem, ↓reduceIte, reduceCtorEq, nA, nB, nC, nD, nE, nF, nG, nH, iA, cast0, cast1, lA, lB, lC, lD, lE, mapV_nil, *]
      simp only [go_sem, ↓reduceIte, reduceCtorEq, nA, nB, nC, nD, nE, nF, nG, nH, iA, *]
      obtain ⟨h801, r802⟩ := iffO_some r798
      clear r798
      simp only [Bool.and_eq_true, decide_eq_true_eq] at h801
      obtain ⟨h803, r804⟩ := iffO_some r802
      clear r802
      simp only [Bool.and_eq_true, decide_eq_true_eq] at h803
      refine drawS_tail (by kernel_rfl) ?_
      simp only [go_sem, ↓reduceIte, reduceCtorEq, nA, nB, nC, nD, nE, nF, nG, nH, iA, *]
      obtain ⟨y805, h806, r807⟩ := bindS r804
      clear r804
      try dsimp only at r807
      refine call_meets ((intmath_sign_ok h806).le ?_) (by first | (simp only [go_sem, ↓reduceIte, reduceCtorEq, nA, nB, nC, nD, nE, nF, nG, nH, iA, *] <;> rfl) | rfl) ?_
      · simp (maxDischargeDepth := 40) only [go_sem, ↓reduceIte, reduceCtorEq, nA, nB, nC, nD, nE, nF, nG, nH, iA, cast0, cast1, lA, lB, lC, lD, lE, mapV_nil, *]
      simp only [go_sem, ↓reduceIte, reduceCtorEq, nA, nB, nC, nD, nE, nF, nG, nH, iA, *]
      obtain ⟨y808, h809, r810⟩ := bindS r807
      clear r807
      try dsimp only at r810
      cases h811 : ((IntKind.i64.wrap (y805 * y808)) == (1 : Int)) with
      | true =>
        simp only [h811, ↓reduceIte, Bool.false_eq_true] at r810
        refine call_meets ((intmath_sign_ok h809).le ?_) (by first | (simp only [go_sem, ↓reduceIte, reduceCtorEq, nA, nB, nC, nD, nE, nF, nG, nH, iA, *] <;> rfl) | rfl) ?_
        · simp (maxDischargeDepth := 40) only [go_sem, ↓reduceIte, reduceCtorEq, nA, nB, nC, nD, nE, nF, nG, nH, iA, cast0, cast1, lA, lB, lC, lD, lE, mapV_nil, *]
        simp only [go_sem, ↓reduceIte, reduceCtorEq, nA, nB, nC, nD, nE, nF, nG, nH, iA, *]
        cases r810
        simp (maxDischargeDepth := 40) only [go_sem, ↓reduceIte, reduceCtorEq, nA, nB, nC, nD, nE, nF, nG, nH, iA, cast0, cast1, lA, lB, lC, lD, lE, mapV_nil, *]
      | false =>
        simp only [h811, ↓reduceIte, Bool.false_eq_true] at r810
        cases h812 : ((IntKind.i64.wrap (y805 * y808)) == (-1 : Int)) with
        | true =>
          simp only [h812, ↓reduceIte, Bool.false_eq_true] at r810
          refine call_meets ((intmath_sign_ok h809).le ?_) (by first | (simp only [go_sem, ↓reduceIte, reduceCtorEq, nA, nB, nC, nD, nE, nF, nG, nH, iA, *] <;> rfl) | rfl) ?_
          · simp (maxDischargeDepth := 40) only [go_sem, ↓reduceIte, reduceCtorEq, nA, nB, nC, nD, nE, nF, nG, nH, iA, cast0, cast1, lA, lB, lC, lD, lE, mapV_nil, *]
          simp only [go_sem, ↓reduceIte, reduceCtorEq, nA, nB, nC, nD, nE, nF, nG, nH, iA, *]
          cases r810
          simp (maxDischargeDepth := 40) only [go_sem, ↓reduceIte, reduceCtorEq, nA, nB, nC, nD, nE, nF, nG, nH, iA, cast0, cast1, lA, lB, lC, lD, lE, mapV_nil, *]
        | false =>
          simp only [h812, ↓reduceIte, Bool.false_eq_true] at r810
          refine call_meets ((intmath_sign_ok h809).le ?_) (by first | (simp only [go_sem, ↓reduceIte, reduceCtorEq, nA, nB, nC, nD, nE, nF, nG, nH, iA, *] <;> rfl) | rfl) ?_
          · simp (maxDischargeDepth := 40) only [go_sem, ↓reduceIte, reduceCtorEq, nA, nB, nC, nD, nE, nF, nG, nH, iA, cast0, cast1, lA, lB, lC, lD, lE, mapV_nil, *]
          simp only [go_sem, ↓reduceIte, reduceCtorEq, nA, nB, nC, nD, nE, nF, nG, nH, iA, *]
          cases r810
          simp (maxDischargeDepth := 40) only [go_sem, ↓reduceIte, reduceCtorEq, nA, nB, nC, nD, nE, nF, nG, nH, iA, cast0, cast1, lA, lB, lC, lD, lE, mapV_nil, *]
  | false =>
    simp only [h799, ↓reduceIte, Bool.false_eq_true] at r798
    refine call_meets ((intmath_within_ok h797).le ?_) (by first | (simp only [go_sem, ↓reduceIte, reduceCtorEq, nA, nB, nC, nD, nE, nF, nG, nH, iA, *] <;> rfl) | rfl) ?_
    · simp (maxDischargeDepth := 40) only [go_sem, ↓reduceIte, reduceCtorEq, nA, nB, nC, nD, nE, nF, nG, nH, iA, cast0, cast1, lA, lB, lC, lD, lE, mapV_nil, *]
    simp only [go_sem, ↓reduceIte, reduceCtorEq, nA, nB, nC, nD, nE, nF, nG, nH, iA, *]
    cases r798
    simp (maxDischargeDepth := 40) only [go_sem, ↓reduceIte, reduceCtorEq, nA, nB, nC, nD, nE, nF, nG, nH, iA, cast0, cast1, lA, lB, lC, lD, lE, mapV_nil, *]

def intmath_Div (a0 : Int) (a1 : Int) : Option (Int × Int) :=
  (intmath_divide a0 a1).bind fun y813 =>
some (y813.1, y813.2.2.2)
set_option maxHeartbeats 2000000 in
theorem intmath_Div_ok {a0 : Int} {a1 : Int} {r : Int × Int} (hr : intmath_Div a0 a1 = some r) : Meets Try.prog 69 [.c (.int .i64 a0), .c (.int .i64 a1)] (.tup [.c (.int .i64 r.1), .c (.int .i64 r.2)]) := by
  unfold intmath_Div at hr
  refine meetsV_of (X := true) Ty.mixed Try.func69 (by kernel_rfl) rfl (by kernel_rfl) (by simp) ?_; rw [Try.ntmps69, Try.results69]
  simp only [go_sem, ↓reduceIte, reduceCtorEq, nA, nB, nC, nD, nE, nF, nG, nH, iA, *]
  obtain ⟨y813, h814, r815⟩ := bindS hr
  clear hr
  try dsimp only at r815
  refine call_meets ((intmath_divide_ok h814).le ?_) (by first | (simp only [go_sem, ↓reduceIte, reduceCtorEq, nA, nB, nC, nD, nE, nF, nG, nH, iA, *] <;> rfl) | rfl) ?_
  · simp (maxDischargeDepth := 40) only [go_sem, ↓reduceIte, reduceCtorEq, nA, nB, nC, nD, nE, nF, nG, nH, iA, cast0, cast1, lA, lB, lC, lD, lE, mapV_nil, *]
  simp only [go_sem, ↓reduceIte, reduceCtorEq, nA, nB, nC, nD, nE, nF, nG, nH, iA, *]
  cases r815
  simp (maxDischargeDepth := 40) only [go_sem, ↓reduceIte, reduceCtorEq, nA, nB, nC, nD, nE, nF, nG, nH, iA, cast0, cast1, lA, lB, lC, lD, lE, mapV_nil, *]

def certificate_cut (a0 : List (Bool × (Int × (List (ByteArray × Int))))) (a1 : List Int) : Option ((Int × (List (ByteArray × Int))) × Int) :=
  (certificate_combine a0 a1).bind fun y655 =>
if (y655.2.2 != (0 : Int)) then
  some (((0 : Int), []), y655.2.2)
else
  if (((y655.1.length : Nat) : Int) == (0 : Int)) then
    some (((0 : Int), []), (18 : Int))
  else
    (forC (R := (Int × (List (ByteArray × Int))) × Int) (y655.1.length) ((0 : Int) : Int) fun k781 s780 =>
      (y655.1[k781]?).bind fun x789 =>
      (intmath_Gcd s780 x789.2).bind fun y793 =>
      some (.nx y793.1)).bind (Sum.elim (fun s780 =>
      (intmath_Div y655.2.1 s780).bind fun y816 =>
      (forC (R := (Int × (List (ByteArray × Int))) × Int) (y655.1.length) ([] : (List (ByteArray × Int))) fun k838 s837 =>
        (y655.1[k838]?).bind fun x846 =>
        iffO (decide (s780 ≠ 0))
          (iffO (decide ((s837.length + 1) * 24 ≤ 140737488355328))
            (some (.nx (s837 ++ [(x846.1, (IntKind.i64.wrap (x846.2.tdiv s780)))]))))).bind (Sum.elim (fun s837 =>
        (linear_Valid (y816.1, s837)).bind fun y854 =>
        if y854 then
          some ((y816.1, s837), (0 : Int))
        else
          some (((0 : Int), []), (3 : Int))) some)) some)
set_option maxHeartbeats 2000000 in
theorem certificate_cut_ok {a0 : List (Bool × (Int × (List (ByteArray × Int))))} {a1 : List Int} {r : (Int × (List (ByteArray × Int))) × Int} (hr : certificate_cut a0 a1 = some r) : Meets Try.prog 43 [.sl false 3 (a0.map e_api_Fact), .sl false 1 (a1.map e_int)] (.tup [.agg [.c (.int .i64 r.1.1), .sl false 2 (r.1.2.map e_api_Coef)], .c (.int .i64 r.2)]) := by
  unfold certificate_cut at hr
  refine meetsV_of (X := true) Ty.mixed Try.func43 (by kernel_rfl) rfl (by kernel_rfl) (by simp) ?_; rw [Try.ntmps43, Try.results43]
  simp only [go_sem, ↓reduceIte, reduceCtorEq, nA, nB, nC, nD, nE, nF, nG, nH, iA, *]
  obtain ⟨y655, h656, r657⟩ := bindS hr
  clear hr
  try dsimp only at r657
  cases h658 : (y655.2.2 != (0 : Int)) with
  | true =>
    simp only [h658, ↓reduceIte, Bool.false_eq_true] at r657
    refine call_meets ((certificate_combine_ok h656).le ?_) (by first | (simp only [go_sem, ↓reduceIte, reduceCtorEq, nA, nB, nC, nD, nE, nF, nG, nH, iA, *] <;> rfl) | rfl) ?_
    · simp (maxDischargeDepth := 40) only [go_sem, ↓reduceIte, reduceCtorEq, nA, nB, nC, nD, nE, nF, nG, nH, iA, cast0, cast1, lA, lB, lC, lD, lE, mapV_nil, *]
    simp only [go_sem, ↓reduceIte, reduceCtorEq, nA, nB, nC, nD, nE, nF, nG, nH, iA, *]
    cases r657
    simp (maxDischargeDepth := 40) only [go_sem, ↓reduceIte, reduceCtorEq, nA, nB, nC, nD, nE, nF, nG, nH, iA, cast0, cast1, lA, lB, lC, lD, lE, mapV_nil, *]
  | false =>
    simp only [h658, ↓reduceIte, Bool.false_eq_true] at r657
    cases h659 : (((y655.1.length : Nat) : Int) == (0 : Int)) with
    | true =>
      simp only [h659, ↓reduceIte, Bool.false_eq_true] at r657
      refine call_meets ((certificate_combine_ok h656).le ?_) (by first | (simp only [go_sem, ↓reduceIte, reduceCtorEq, nA, nB, nC, nD, nE, nF, nG, nH, iA, *] <;> rfl) | rfl) ?_
      · simp (maxDischargeDepth := 40) only [go_sem, ↓reduceIte, reduceCtorEq, nA, nB, nC, nD, nE, nF, nG, nH, iA, cast0, cast1, lA, lB, lC, lD, lE, mapV_nil, *]
      simp only [go_sem, ↓reduceIte, reduceCtorEq, nA, nB, nC, nD, nE, nF, nG, nH, iA, *]
      cases r657
      simp (maxDischargeDepth := 40) only [go_sem, ↓reduceIte, reduceCtorEq, nA, nB, nC, nD, nE, nF, nG, nH, iA, cast0, cast1, lA, lB, lC, lD, lE, mapV_nil, *]
    | false =>
      simp only [h659, ↓reduceIte, Bool.false_eq_true] at r657
      refine call_meets ((certificate_combine_ok h656).le ?_) (by first | (simp only [go_sem, ↓reduceIte, reduceCtorEq, nA, nB, nC, nD, nE, nF, nG, nH, iA, *] <;> rfl) | rfl) ?_
      · simp (maxDischargeDepth := 40) only [go_sem, ↓reduceIte, reduceCtorEq, nA, nB, nC, nD, nE, nF, nG, nH, iA, cast0, cast1, lA, lB, lC, lD, lE, mapV_nil, *]
      simp only [go_sem, ↓reduceIte, reduceCtorEq, nA, nB, nC, nD, nE, nF, nG, nH, iA, *]
      refine loop_for r657 (fun k781 s780 => ⟨76, [(4, .ptr 0 0), (6, .sl false 2 (y655.1.map e_api_Coef)), (7, .c (.int .i64 y655.2.1)), (9, .c (.int .i64 s780)), (30, .sl false 2 (y655.1.map e_api_Coef)), (31, .c (.int .i64 ((y655.1.length : Nat) : Int))), (32, .c (.int .i64 (k781 : Int)))], [some (.var 26 [.c (.int .i64 (0 : Int)), .nils])]⟩) ?_ ?_ ?_
      · try dsimp only
        refine LeS.pick [some 0] rfl rfl ?_ ?_
        all_goals simp (maxDischargeDepth := 40) only [go_sem, ↓reduceIte, reduceCtorEq, nA, nB, nC, nD, nE, nF, nG, nH, iA, cast0, cast1, lA, lB, lC, lD, lE, mapV_nil, *]
      · intro k781 s780 qhc783 h784 h785 h786 h787 hq782 hc783 Khc783 hKhc783
        try dsimp only at hq782
        obtain ⟨x789, h790, r791⟩ := bindS hq782
        clear hq782
        try dsimp only at r791
        have g33 := get_map e_api_Coef h790
        simp only [go_sem, ↓reduceIte, reduceCtorEq, nA, nB, nC, nD, nE, nF, nG, nH, iA, *]
        obtain ⟨y793, h794, r795⟩ := bindS r791
        clear r791
        try dsimp only at r795
        refine call_meets ((intmath_Gcd_ok h794).le ?_) (by first | (simp only [go_sem, ↓reduceIte, reduceCtorEq, nA, nB, nC, nD, nE, nF, nG, nH, iA, *] <;> rfl) | rfl) ?_
        · simp (maxDischargeDepth := 40) only [go_sem, ↓reduceIte, reduceCtorEq, nA, nB, nC, nD, nE, nF, nG, nH, iA, cast0, cast1, lA, lB, lC, lD, lE, mapV_nil, *]
        simp only [go_sem, ↓reduceIte, reduceCtorEq, nA, nB, nC, nD, nE, nF, nG, nH, iA, *]
        cases r795
        refine hKhc783 _ _ rfl ?_
        try dsimp only
        refine LeS.pick [some 0] rfl rfl ?_ ?_
        all_goals simp (maxDischargeDepth := 40) only [go_sem, ↓reduceIte, reduceCtorEq, nA, nB, nC, nD, nE, nF, nG, nH, iA, cast0, cast1, lA, lB, lC, lD, lE, mapV_nil, *]
      · clear r657
        intro s780 r657 h784 h788 Khc783
        dsimp only [Sum.elim_inl] at r657
        simp only [go_sem, ↓reduceIte, reduceCtorEq, nA, nB, nC, nD, nE, nF, nG, nH, iA, *]
        obtain ⟨y816, h817, r818⟩ := bindS r657
        clear r657
        try dsimp only at r818
        refine call_meets ((intmath_Div_ok h817).le ?_) (by first | (simp only [go_sem, ↓reduceIte, reduceCtorEq, nA, nB, nC, nD, nE, nF, nG, nH, iA, *] <;> rfl) | rfl) ?_
        · simp (maxDischargeDepth := 40) only [go_sem, ↓reduceIte, reduceCtorEq, nA, nB, nC, nD, nE, nF, nG, nH, iA, cast0, cast1, lA, lB, lC, lD, lE, mapV_nil, *]
        simp only [go_sem, ↓reduceIte, reduceCtorEq, nA, nB, nC, nD, nE, nF, nG, nH, iA, *]
        refine loop_for r818 (fun k838 s837 => ⟨76, [(4, .ptr 0 0), (9, .c (.int .i64 s780)), (12, .ptr 1 0), (52, .sl false 2 (y655.1.map e_api_Coef)), (53, .c (.int .i64 ((y655.1.length : Nat) : Int))), (54, .c (.int .i64 (k838 : Int)))], [some (.var 26 [.c (.int .i64 (0 : Int)), .nils]), some (.var 26 [.c (.int .i64 y816.1), .own 2 2 s837.length]), some (.row 71 2 (s837.map e_api_Coef))]⟩) ?_ ?_ ?_
        · try dsimp only
          refine LeS.pick [some 0, some 1, none] rfl rfl ?_ ?_
          all_goals simp (maxDischargeDepth := 40) only [go_sem, ↓reduceIte, reduceCtorEq, nA, nB, nC, nD, nE, nF, nG, nH, iA, cast0, cast1, lA, lB, lC, lD, lE, mapV_nil, *]
        · intro k838 s837 qhc840 h841 h842 h843 h844 hq839 hc840 Khc840 hKhc840
          try dsimp only at hq839
          obtain ⟨x846, h847, r848⟩ := bindS hq839
          clear hq839
          try dsimp only at r848
          have g34 := get_map e_api_Coef h847
          simp only [go_sem, ↓reduceIte, reduceCtorEq, nA, nB, nC, nD, nE, nF, nG, nH, iA, *]
          obtain ⟨h850, r851⟩ := iffO_some r848
          clear r848
          simp only [Bool.and_eq_true, decide_eq_true_eq] at h850
          obtain ⟨h852, r853⟩ := iffO_some r851
          clear r851
          simp only [Bool.and_eq_true, decide_eq_true_eq] at h852
          refine drawS_wild ?_
          simp (config := {maxSteps := 2000000}) only [go_sem, ↓reduceIte, reduceCtorEq, nA, nB, nC, nD, nE, nF, nG, nH, iA, *]
          repeat refine ⟨by first | omega | (simp only [List.length_append, List.length_cons, List.length_nil, List.length_map, Nat.zero_add] at *; omega), ?_⟩
          repeat refine ⟨by first | omega | (simp only [List.length_append, List.length_cons, List.length_nil, List.length_map, Nat.zero_add] at *; omega), ?_⟩
          first | refine ⟨by kernel_rfl, ?_⟩ | skip
          try simp only [go_sem, ↓reduceIte, reduceCtorEq, nA, nB, nC, nD, nE, nF, nG, nH, iA, *]
          cases r853
          refine hKhc840 _ _ rfl ?_
          try dsimp only
          refine LeS.pick [some 0, some 1, some 2] rfl rfl ?_ ?_
          all_goals simp (maxDischargeDepth := 40) only [go_sem, ↓reduceIte, reduceCtorEq, nA, nB, nC, nD, nE, nF, nG, nH, iA, cast0, cast1, lA, lB, lC, lD, lE, mapV_nil, *]
        · clear r818
          intro s837 r818 h841 h845 Khc840
          dsimp only [Sum.elim_inl] at r818
          simp only [go_sem, ↓reduceIte, reduceCtorEq, nA, nB, nC, nD, nE, nF, nG, nH, iA, *]
          obtain ⟨y854, h855, r856⟩ := bindS r818
          clear r818
          try dsimp only at r856
          cases h857 : y854 with
          | true =>
            simp only [h857, ↓reduceIte, Bool.false_eq_true] at r856
            refine call_meets ((linear_Valid_ok h855).le ?_) (by first | (simp only [go_sem, ↓reduceIte, reduceCtorEq, nA, nB, nC, nD, nE, nF, nG, nH, iA, *] <;> rfl) | rfl) ?_
            · simp (maxDischargeDepth := 40) only [go_sem, ↓reduceIte, reduceCtorEq, nA, nB, nC, nD, nE, nF, nG, nH, iA, cast0, cast1, lA, lB, lC, lD, lE, mapV_nil, *]
            simp only [go_sem, ↓reduceIte, reduceCtorEq, nA, nB, nC, nD, nE, nF, nG, nH, iA, *]
            cases r856
            simp (maxDischargeDepth := 40) only [go_sem, ↓reduceIte, reduceCtorEq, nA, nB, nC, nD, nE, nF, nG, nH, iA, cast0, cast1, lA, lB, lC, lD, lE, mapV_nil, *]
          | false =>
            simp only [h857, ↓reduceIte, Bool.false_eq_true] at r856
            refine call_meets ((linear_Valid_ok h855).le ?_) (by first | (simp only [go_sem, ↓reduceIte, reduceCtorEq, nA, nB, nC, nD, nE, nF, nG, nH, iA, *] <;> rfl) | rfl) ?_
            · simp (maxDischargeDepth := 40) only [go_sem, ↓reduceIte, reduceCtorEq, nA, nB, nC, nD, nE, nF, nG, nH, iA, cast0, cast1, lA, lB, lC, lD, lE, mapV_nil, *]
            simp only [go_sem, ↓reduceIte, reduceCtorEq, nA, nB, nC, nD, nE, nF, nG, nH, iA, *]
            cases r856
            simp (maxDischargeDepth := 40) only [go_sem, ↓reduceIte, reduceCtorEq, nA, nB, nC, nD, nE, nF, nG, nH, iA, cast0, cast1, lA, lB, lC, lD, lE, mapV_nil, *]

def certificate_refutes_1__v (a0 : Int × (List (ByteArray × Int))) (a1 : List (Bool × (Int × (List (ByteArray × Int))))) : Option ((List (Bool × (Int × (List (ByteArray × Int)))))) :=
  iffO (decide ((a1.length + 1) * 40 ≤ 140737488355328))
  (some (a1 ++ [(false, a0)]))
set_option maxHeartbeats 2000000 in
theorem certificate_refutes_1__v_ok {a0 : Int × (List (ByteArray × Int))} {a1 : List (Bool × (Int × (List (ByteArray × Int))))} {r : (List (Bool × (Int × (List (ByteArray × Int)))))} (hr : certificate_refutes_1__v a0 a1 = some r) : Meets Try.prog 65 [.agg [.c (.int .i64 a0.1), .sl false 2 (a0.2.map e_api_Coef)], .dptr [.sl false 3 (a1.map e_api_Fact)]] (.sl false 3 (r.map e_api_Fact)) := by
  unfold certificate_refutes_1__v at hr
  refine meetsV_of (X := true) Ty.mixed Try.func65 (by kernel_rfl) rfl (by kernel_rfl) (by simp) ?_; rw [Try.ntmps65, Try.results65]
  simp only [go_sem, ↓reduceIte, reduceCtorEq, nA, nB, nC, nD, nE, nF, nG, nH, iA, *]
  obtain ⟨h862, r863⟩ := iffO_some hr
  clear hr
  simp only [Bool.and_eq_true, decide_eq_true_eq] at h862
  refine drawS_wild ?_
  simp (config := {maxSteps := 2000000}) only [go_sem, ↓reduceIte, reduceCtorEq, nA, nB, nC, nD, nE, nF, nG, nH, iA, Int.le_refl, Int.natCast_nonneg, and_self, true_and, List.take_length, *]
  repeat refine ⟨by first | omega | (simp only [List.length_append, List.length_cons, List.length_nil, List.length_map, Nat.zero_add] at *; omega), ?_⟩
  repeat refine ⟨by first | omega | (simp only [List.length_append, List.length_cons, List.length_nil, List.length_map, Nat.zero_add] at *; omega), ?_⟩
  first | refine ⟨by kernel_rfl, ?_⟩ | skip
  try simp only [go_sem, ↓reduceIte, reduceCtorEq, nA, nB, nC, nD, nE, nF, nG, nH, iA, Int.le_refl, Int.natCast_nonneg, and_self, true_and, List.take_length, *]
  cases r863
  simp (maxDischargeDepth := 40) only [go_sem, ↓reduceIte, reduceCtorEq, nA, nB, nC, nD, nE, nF, nG, nH, iA, cast0, cast1, lA, lB, lC, lD, lE, mapV_nil, *]

def linear_Of (a0 : Int) : Option ((Int × (List (ByteArray × Int)))) :=
  some (a0, [])
set_option maxHeartbeats 2000000 in
theorem linear_Of_ok {a0 : Int} {r : (Int × (List (ByteArray × Int)))} (hr : linear_Of a0 = some r) : Meets Try.prog 55 [.c (.int .i64 a0)] (.agg [.c (.int .i64 r.1), .sl false 2 (r.2.map e_api_Coef)]) := by
  unfold linear_Of at hr
  refine meetsV_of (X := true) Ty.mixed Try.func55 (by kernel_rfl) rfl (by kernel_rfl) (by simp) ?_; rw [Try.ntmps55, Try.results55]
  simp only [go_sem, ↓reduceIte, reduceCtorEq, nA, nB, nC, nD, nE, nF, nG, nH, iA, *]
  cases hr
  simp (maxDischargeDepth := 40) only [go_sem, ↓reduceIte, reduceCtorEq, nA, nB, nC, nD, nE, nF, nG, nH, iA, cast0, cast1, lA, lB, lC, lD, lE, mapV_nil, *]

def linear_combine (a0 : Int × (List (ByteArray × Int))) (a1 : Int × (List (ByteArray × Int))) (a2 : Int) : Option ((Int × (List (ByteArray × Int))) × Int) :=
  (linear_Valid a0).bind fun y920 =>
if y920 then
  (linear_Valid a1).bind fun y924 =>
  if y924 then
    (forC (R := (Int × (List (ByteArray × Int))) × Int) (a0.2.length) ([] : (List (ByteArray × Int))) fun k941 s940 =>
      (a0.2[k941]?).bind fun x949 =>
      some (.nx (mapP x949.1 (IntKind.i64.wrap (((mapG x949.1 s940).getD (0 : Int)) + (IntKind.i64.wrap ((1 : Int) * x949.2)))) s940))).bind (Sum.elim (fun s940 =>
      (forC (R := (Int × (List (ByteArray × Int))) × Int) (a1.2.length) (s940 : (List (ByteArray × Int))) fun k966 s965 =>
        (a1.2[k966]?).bind fun x974 =>
        some (.nx (mapP x974.1 (IntKind.i64.wrap (((mapG x974.1 s965).getD (0 : Int)) + (IntKind.i64.wrap (a2 * x974.2)))) s965))).bind (Sum.elim (fun s965 =>
        iffO (mapOk s965)
          ((forC (R := (Int × (List (ByteArray × Int))) × Int) (((mapKeys s965).length)) ([] : (List (ByteArray × Int))) fun k997 s996 =>
            ((mapKeys s965)[k997]?).bind fun x1005 =>
            if (((mapG x1005 s965).getD (0 : Int)) != (0 : Int)) then
              iffO (decide ((s996.length + 1) * 24 ≤ 140737488355328))
                (some (.nx (s996 ++ [(x1005, ((mapG x1005 s965).getD (0 : Int)))])))
            else
              some (.nx s996)).bind (Sum.elim (fun s996 =>
            (linear_Valid ((IntKind.i64.wrap ((IntKind.i64.wrap ((0 : Int) + (IntKind.i64.wrap ((1 : Int) * a0.1)))) + (IntKind.i64.wrap (a2 * a1.1)))), s996)).bind fun y1012 =>
            if y1012 then
              some (((IntKind.i64.wrap ((IntKind.i64.wrap ((0 : Int) + (IntKind.i64.wrap ((1 : Int) * a0.1)))) + (IntKind.i64.wrap (a2 * a1.1)))), s996), (0 : Int))
            else
              some (((0 : Int), []), (3 : Int))) some))) some)) some)
  else
    some (((0 : Int), []), (1 : Int))
else
  some (((0 : Int), []), (1 : Int))
set_option maxHeartbeats 2000000 in
theorem linear_combine_ok {a0 : Int × (List (ByteArray × Int))} {a1 : Int × (List (ByteArray × Int))} {a2 : Int} {r : (Int × (List (ByteArray × Int))) × Int} (hr : linear_combine a0 a1 a2 = some r) : Meets Try.prog 79 [.agg [.c (.int .i64 a0.1), .sl false 2 (a0.2.map e_api_Coef)], .agg [.c (.int .i64 a1.1), .sl false 2 (a1.2.map e_api_Coef)], .c (.int .i64 a2)] (.tup [.agg [.c (.int .i64 r.1.1), .sl false 2 (r.1.2.map e_api_Coef)], .c (.int .i64 r.2)]) := by
  unfold linear_combine at hr
  refine meetsV_of (X := true) Ty.mixed Try.func79 (by kernel_rfl) rfl (by kernel_rfl) (by simp) ?_; rw [Try.ntmps79, Try.results79]
  simp only [go_sem, ↓reduceIte, reduceCtorEq, nA, nB, nC, nD, nE, nF, nG, nH, iA, *]
  obtain ⟨y920, h921, r922⟩ := bindS hr
  clear hr
  try dsimp only at r922
  cases h923 : y920 with
  | true =>
    simp only [h923, ↓reduceIte, Bool.false_eq_true] at r922
    refine call_meets ((linear_Valid_ok h921).le ?_) (by first | (simp only [go_sem, ↓reduceIte, reduceCtorEq, nA, nB, nC, nD, nE, nF, nG, nH, iA, *] <;> rfl) | rfl) ?_
    · simp (maxDischargeDepth := 40) only [go_sem, ↓reduceIte, reduceCtorEq, nA, nB, nC, nD, nE, nF, nG, nH, iA, cast0, cast1, lA, lB, lC, lD, lE, mapV_nil, *]
    simp only [go_sem, ↓reduceIte, reduceCtorEq, nA, nB, nC, nD, nE, nF, nG, nH, iA, *]
    obtain ⟨y924, h925, r926⟩ := bindS r922
    clear r922
    try dsimp only at r926
    cases h927 : y924 with
    | true =>
      simp only [h927, ↓reduceIte, Bool.false_eq_true] at r926
      refine call_meets ((linear_Valid_ok h925).le ?_) (by first | (simp only [go_sem, ↓reduceIte, reduceCtorEq, nA, nB, nC, nD, nE, nF, nG, nH, iA, *] <;> rfl) | rfl) ?_
      · simp (maxDischargeDepth := 40) only [go_sem, ↓reduceIte, reduceCtorEq, nA, nB, nC, nD, nE, nF, nG, nH, iA, cast0, cast1, lA, lB, lC, lD, lE, mapV_nil, *]
      simp only [go_sem, ↓reduceIte, reduceCtorEq, nA, nB, nC, nD, nE, nF, nG, nH, iA, *]
      refine call_inl (X := true) Ty.mixed Try.func95 (by kernel_rfl) rfl (by kernel_rfl) (by simp) ?_; rw [Try.ntmps95, Try.results95]; simp only [go_sem, ↓reduceIte, reduceCtorEq, nA, nB, nC, nD, nE, nF, nG, nH, iA, h923, h927, *]
      refine call_inl (X := true) Ty.mixed Try.func96 (by kernel_rfl) rfl (by kernel_rfl) (by simp) ?_; rw [Try.ntmps96, Try.results96]; simp only [go_sem, ↓reduceIte, reduceCtorEq, nA, nB, nC, nD, nE, nF, nG, nH, iA, h923, h927, *]
      refine drawS_tail (by kernel_rfl) ?_
      simp only [go_sem, ↓reduceIte, reduceCtorEq, nA, nB, nC, nD, nE, nF, nG, nH, iA, *]
      refine loop_for r926 (fun k941 s940 => ⟨39, [(0, .ptr 4 0), (2, .c (.int .i64 (1 : Int))), (20, .sl false 2 (a0.2.map e_api_Coef)), (21, .c (.int .i64 ((a0.2.length : Nat) : Int))), (22, .c (.int .i64 (k941 : Int))), (39, .agg [.c (.int .i64 a0.1), .sl false 2 (a0.2.map e_api_Coef)]), (40, .agg [.c (.int .i64 a1.1), .sl false 2 (a1.2.map e_api_Coef)]), (41, .c (.int .i64 a2)), (42, .ptr 0 0), (43, .ptr 1 0), (45, .ptr 2 0), (46, .c (.int .i64 (0 : Int))), (47, .ptr 4 0), (48, .agg [.c (.int .i64 a0.1), .sl false 2 (a0.2.map e_api_Coef)]), (49, .c (.bool true)), (50, .c (.bool false)), (51, .c (.bool false)), (52, .agg [.c (.int .i64 a1.1), .sl false 2 (a1.2.map e_api_Coef)]), (53, .c (.bool true)), (54, .c (.bool false)), (55, .c (.bool false)), (57, .ptr 4 0), (58, .ptr 4 0), (59, .agg [.c (.int .i64 a0.1), .sl false 2 (a0.2.map e_api_Coef)])], [some (.var 26 [.c (.int .i64 a0.1), .sl false 2 (a0.2.map e_api_Coef)]), some (.var 26 [.c (.int .i64 a1.1), .sl false 2 (a1.2.map e_api_Coef)]), some (.var 26 [.c (.int .i64 (0 : Int)), .nils]), some (.map .s (mapV (fun v => .c (.int .i64 v)) s940)), some (.var 125 [.c (.int .i64 (IntKind.i64.wrap ((0 : Int) + (IntKind.i64.wrap ((1 : Int) * a0.1))))), .mp 3]), some (.var 26 [.c (.int .i64 a0.1), .sl false 2 (a0.2.map e_api_Coef)])]⟩) ?_ ?_ ?_
      · try dsimp only
        refine LeS.pick [some 0, some 1, some 2, some 3, some 4, some 5] rfl rfl ?_ ?_
        all_goals simp (maxDischargeDepth := 40) only [go_sem, ↓reduceIte, reduceCtorEq, nA, nB, nC, nD, nE, nF, nG, nH, iA, cast0, cast1, lA, lB, lC, lD, lE, mapV_nil, *]
      · intro k941 s940 qhc943 h944 h945 h946 h947 hq942 hc943 Khc943 hKhc943
        try dsimp only at hq942
        obtain ⟨x949, h950, r951⟩ := bindS hq942
        clear hq942
        try dsimp only at r951
        have g35 := get_map e_api_Coef h950
        simp only [go_sem, ↓reduceIte, reduceCtorEq, nA, nB, nC, nD, nE, nF, nG, nH, iA, *]
        refine drawS_tail (by kernel_rfl) ?_
        have g36 := mapG_is (fun v => .c (.int .i64 v)) (0 : Int) (.c (.int .i64 (0 : Int))) rfl
        have g37 := mapP_is (fun v => .c (.int .i64 v)) (IntKind.i64.wrap (((mapG x949.1 s940).getD (0 : Int)) + (IntKind.i64.wrap ((1 : Int) * x949.2)))) (.c (.int .i64 (IntKind.i64.wrap (((mapG x949.1 s940).getD (0 : Int)) + (IntKind.i64.wrap ((1 : Int) * x949.2)))))) rfl
        simp only [go_sem, ↓reduceIte, reduceCtorEq, nA, nB, nC, nD, nE, nF, nG, nH, iA, List.all_toArray', *]
        cases r951
        refine hKhc943 _ _ rfl ?_
        try dsimp only
        refine LeS.pick [some 0, some 1, some 2, some 3, some 4, some 5] rfl rfl ?_ ?_
        all_goals simp (maxDischargeDepth := 40) only [go_sem, ↓reduceIte, reduceCtorEq, nA, nB, nC, nD, nE, nF, nG, nH, iA, cast0, cast1, lA, lB, lC, lD, lE, mapV_nil, List.all_toArray', *]
      · clear r926
        intro s940 r926 h944 h948 Khc943
        dsimp only [Sum.elim_inl] at r926
        simp only [go_sem, ↓reduceIte, reduceCtorEq, nA, nB, nC, nD, nE, nF, nG, nH, iA, *]
        refine call_inl (X := true) Ty.mixed Try.func96 (by kernel_rfl) rfl (by kernel_rfl) (by simp) ?_; rw [Try.ntmps96, Try.results96]; simp only [go_sem, ↓reduceIte, reduceCtorEq, nA, nB, nC, nD, nE, nF, nG, nH, iA, h923, h927, h948, *]
        refine drawS_tail (by kernel_rfl) ?_
        simp only [go_sem, ↓reduceIte, reduceCtorEq, nA, nB, nC, nD, nE, nF, nG, nH, iA, *]
        refine loop_for r926 (fun k966 s965 => ⟨39, [(0, .ptr 4 0), (2, .c (.int .i64 a2)), (20, .sl false 2 (a1.2.map e_api_Coef)), (21, .c (.int .i64 ((a1.2.length : Nat) : Int))), (22, .c (.int .i64 (k966 : Int))), (39, .agg [.c (.int .i64 a0.1), .sl false 2 (a0.2.map e_api_Coef)]), (40, .agg [.c (.int .i64 a1.1), .sl false 2 (a1.2.map e_api_Coef)]), (41, .c (.int .i64 a2)), (42, .ptr 0 0), (43, .ptr 1 0), (45, .ptr 2 0), (46, .c (.int .i64 (0 : Int))), (47, .ptr 4 0), (48, .agg [.c (.int .i64 a0.1), .sl false 2 (a0.2.map e_api_Coef)]), (49, .c (.bool true)), (50, .c (.bool false)), (51, .c (.bool false)), (52, .agg [.c (.int .i64 a1.1), .sl false 2 (a1.2.map e_api_Coef)]), (53, .c (.bool true)), (54, .c (.bool false)), (55, .c (.bool false)), (57, .ptr 4 0), (58, .ptr 4 0), (59, .agg [.c (.int .i64 a0.1), .sl false 2 (a0.2.map e_api_Coef)]), (61, .ptr 4 0), (62, .agg [.c (.int .i64 a1.1), .sl false 2 (a1.2.map e_api_Coef)]), (63, .c (.int .i64 a2))], [some (.var 26 [.c (.int .i64 a0.1), .sl false 2 (a0.2.map e_api_Coef)]), some (.var 26 [.c (.int .i64 a1.1), .sl false 2 (a1.2.map e_api_Coef)]), some (.var 26 [.c (.int .i64 (0 : Int)), .nils]), some (.map .s (mapV (fun v => .c (.int .i64 v)) s965)), some (.var 125 [.c (.int .i64 (IntKind.i64.wrap ((IntKind.i64.wrap ((0 : Int) + (IntKind.i64.wrap ((1 : Int) * a0.1)))) + (IntKind.i64.wrap (a2 * a1.1))))), .mp 3]), some (.var 26 [.c (.int .i64 a0.1), .sl false 2 (a0.2.map e_api_Coef)]), some (.var 26 [.c (.int .i64 a1.1), .sl false 2 (a1.2.map e_api_Coef)])]⟩) ?_ ?_ ?_
        · try dsimp only
          refine LeS.pick [some 0, some 1, some 2, some 3, some 4, some 5, some 6] rfl rfl ?_ ?_
          all_goals simp (maxDischargeDepth := 40) only [go_sem, ↓reduceIte, reduceCtorEq, nA, nB, nC, nD, nE, nF, nG, nH, iA, cast0, cast1, lA, lB, lC, lD, lE, mapV_nil, *]
        · intro k966 s965 qhc968 h969 h970 h971 h972 hq967 hc968 Khc968 hKhc968
          try dsimp only at hq967
          obtain ⟨x974, h975, r976⟩ := bindS hq967
          clear hq967
          try dsimp only at r976
          have g38 := get_map e_api_Coef h975
          simp only [go_sem, ↓reduceIte, reduceCtorEq, nA, nB, nC, nD, nE, nF, nG, nH, iA, *]
          refine drawS_tail (by kernel_rfl) ?_
          have g39 := mapG_is (fun v => .c (.int .i64 v)) (0 : Int) (.c (.int .i64 (0 : Int))) rfl
          have g40 := mapP_is (fun v => .c (.int .i64 v)) (IntKind.i64.wrap (((mapG x974.1 s965).getD (0 : Int)) + (IntKind.i64.wrap (a2 * x974.2)))) (.c (.int .i64 (IntKind.i64.wrap (((mapG x974.1 s965).getD (0 : Int)) + (IntKind.i64.wrap (a2 * x974.2)))))) rfl
          simp only [go_sem, ↓reduceIte, reduceCtorEq, nA, nB, nC, nD, nE, nF, nG, nH, iA, List.all_toArray', *]
          cases r976
          refine hKhc968 _ _ rfl ?_
          try dsimp only
          refine LeS.pick [some 0, some 1, some 2, some 3, some 4, some 5, some 6] rfl rfl ?_ ?_
          all_goals simp (maxDischargeDepth := 40) only [go_sem, ↓reduceIte, reduceCtorEq, nA, nB, nC, nD, nE, nF, nG, nH, iA, cast0, cast1, lA, lB, lC, lD, lE, mapV_nil, List.all_toArray', *]
        · clear r926
          intro s965 r926 h969 h973 Khc968
          dsimp only [Sum.elim_inl] at r926
          simp only [go_sem, ↓reduceIte, reduceCtorEq, nA, nB, nC, nD, nE, nF, nG, nH, iA, *]
          refine call_inl (X := true) Ty.mixed Try.func97 (by kernel_rfl) rfl (by kernel_rfl) (by simp) ?_; rw [Try.ntmps97, Try.results97]; simp only [go_sem, ↓reduceIte, reduceCtorEq, nA, nB, nC, nD, nE, nF, nG, nH, iA, h923, h927, h948, h973, *]
          refine call_inl (X := true) Ty.mixed Try.func105 (by kernel_rfl) rfl (by kernel_rfl) (by simp) ?_; rw [Try.ntmps105, Try.results105]; simp only [go_sem, ↓reduceIte, reduceCtorEq, nA, nB, nC, nD, nE, nF, nG, nH, iA, h923, h927, h948, h973, *]
          obtain ⟨h978, r979⟩ := iffO_some r926
          clear r926
          refine call_sortedM (hks_slices_Sorted_string_maps_Keys_map_string_int_string_int_1) (fun v => .c (.int .i64 v)) (L := 9) (M := 3) (t := 123) (by simp only [go_sem, ↓reduceIte, reduceCtorEq, nA, nB, nC, nD, nE, nF, nG, nH, iA, *]) (by simp only [go_sem, ↓reduceIte, reduceCtorEq, nA, nB, nC, nD, nE, nF, nG, nH, iA, *]) h978 ?_
          simp only [go_sem, ↓reduceIte, reduceCtorEq, nA, nB, nC, nD, nE, nF, nG, nH, iA, *]
          refine loop_for r979 (fun k997 s996 => ⟨49, [(0, .ptr 4 0), (2, .ptr 7 0), (4, .ptr 8 0), (17, .sl false 1 ((mapKeys s965).map e_string)), (18, .c (.int .i64 ((((mapKeys s965).length) : Nat) : Int))), (19, .c (.int .i64 (k997 : Int))), (49, .agg [.c (.int .i64 a0.1), .sl false 2 (a0.2.map e_api_Coef)]), (50, .agg [.c (.int .i64 a1.1), .sl false 2 (a1.2.map e_api_Coef)]), (51, .c (.int .i64 a2)), (52, .ptr 0 0), (53, .ptr 1 0), (55, .ptr 2 0), (56, .c (.int .i64 (0 : Int))), (57, .ptr 4 0), (58, .agg [.c (.int .i64 a0.1), .sl false 2 (a0.2.map e_api_Coef)]), (59, .c (.bool true)), (60, .c (.bool false)), (61, .c (.bool false)), (62, .agg [.c (.int .i64 a1.1), .sl false 2 (a1.2.map e_api_Coef)]), (63, .c (.bool true)), (64, .c (.bool false)), (65, .c (.bool false)), (67, .ptr 4 0), (68, .ptr 4 0), (69, .agg [.c (.int .i64 a0.1), .sl false 2 (a0.2.map e_api_Coef)]), (71, .ptr 4 0), (72, .agg [.c (.int .i64 a1.1), .sl false 2 (a1.2.map e_api_Coef)]), (73, .c (.int .i64 a2)), (75, .ptr 4 0)], [some (.var 26 [.c (.int .i64 a0.1), .sl false 2 (a0.2.map e_api_Coef)]), some (.var 26 [.c (.int .i64 a1.1), .sl false 2 (a1.2.map e_api_Coef)]), some (.var 26 [.c (.int .i64 (0 : Int)), .nils]), some (.map .s (mapV (fun v => .c (.int .i64 v)) s965)), some (.var 125 [.c (.int .i64 (IntKind.i64.wrap ((IntKind.i64.wrap ((0 : Int) + (IntKind.i64.wrap ((1 : Int) * a0.1)))) + (IntKind.i64.wrap (a2 * a1.1))))), .mp 3]), some (.var 26 [.c (.int .i64 a0.1), .sl false 2 (a0.2.map e_api_Coef)]), some (.var 26 [.c (.int .i64 a1.1), .sl false 2 (a1.2.map e_api_Coef)]), some (.var 26 [.c (.int .i64 (0 : Int)), .nils]), some (.var 26 [.c (.int .i64 (IntKind.i64.wrap ((IntKind.i64.wrap ((0 : Int) + (IntKind.i64.wrap ((1 : Int) * a0.1)))) + (IntKind.i64.wrap (a2 * a1.1))))), .own 10 2 s996.length]), some (.var 123 [.mp 3]), some (.row 71 2 (s996.map e_api_Coef))]⟩) ?_ ?_ ?_
          · try dsimp only
            refine LeS.pick [some 0, some 1, some 2, some 3, some 4, some 5, some 6, some 7, some 8, some 9, none] rfl rfl ?_ ?_
            all_goals simp (maxDischargeDepth := 40) only [go_sem, ↓reduceIte, reduceCtorEq, nA, nB, nC, nD, nE, nF, nG, nH, iA, cast0, cast1, lA, lB, lC, lD, lE, mapV_nil, *]
          · intro k997 s996 qhc999 h1000 h1001 h1002 h1003 hq998 hc999 Khc999 hKhc999
            try dsimp only at hq998
            obtain ⟨x1005, h1006, r1007⟩ := bindS hq998
            clear hq998
            try dsimp only at r1007
            cases h1009 : (((mapG x1005 s965).getD (0 : Int)) != (0 : Int)) with
            | true =>
              simp only [h1009, ↓reduceIte, Bool.false_eq_true] at r1007
              have g41 := get_map e_string h1006
              have g42 := mapG_is (fun v => .c (.int .i64 v)) (0 : Int) (.c (.int .i64 (0 : Int))) rfl
              simp only [go_sem, ↓reduceIte, reduceCtorEq, nA, nB, nC, nD, nE, nF, nG, nH, iA, List.all_toArray', *]
              obtain ⟨h1010, r1011⟩ := iffO_some r1007
              clear r1007
              simp only [Bool.and_eq_true, decide_eq_true_eq] at h1010
              refine drawS_wild ?_
              simp (config := {maxSteps := 2000000}) only [go_sem, ↓reduceIte, reduceCtorEq, nA, nB, nC, nD, nE, nF, nG, nH, iA, List.all_toArray', List.all_toArray', *]
              repeat refine ⟨by first | omega | (simp only [List.length_append, List.length_cons, List.length_nil, List.length_map, Nat.zero_add] at *; omega), ?_⟩
              repeat refine ⟨by first | omega | (simp only [List.length_append, List.length_cons, List.length_nil, List.length_map, Nat.zero_add] at *; omega), ?_⟩
              first | refine ⟨by kernel_rfl, ?_⟩ | skip
              try simp only [go_sem, ↓reduceIte, reduceCtorEq, nA, nB, nC, nD, nE, nF, nG, nH, iA, List.all_toArray', List.all_toArray', *]
              cases r1011
              refine hKhc999 _ _ rfl ?_
              try dsimp only
              refine LeS.pick [some 0, some 1, some 2, some 3, some 4, some 5, some 6, some 7, some 8, some 9, some 10] rfl rfl ?_ ?_
              all_goals simp (maxDischargeDepth := 40) only [go_sem, ↓reduceIte, reduceCtorEq, nA, nB, nC, nD, nE, nF, nG, nH, iA, cast0, cast1, lA, lB, lC, lD, lE, mapV_nil, List.all_toArray', List.all_toArray', *]
            | false =>
              simp only [h1009, ↓reduceIte, Bool.false_eq_true] at r1007
              have g43 := get_map e_string h1006
              have g44 := mapG_is (fun v => .c (.int .i64 v)) (0 : Int) (.c (.int .i64 (0 : Int))) rfl
              simp only [go_sem, ↓reduceIte, reduceCtorEq, nA, nB, nC, nD, nE, nF, nG, nH, iA, List.all_toArray', *]
              cases r1007
              refine hKhc999 _ _ rfl ?_
              try dsimp only
              refine LeS.pick [some 0, some 1, some 2, some 3, some 4, some 5, some 6, some 7, some 8, some 9, some 10] rfl rfl ?_ ?_
              all_goals simp (maxDischargeDepth := 40) only [go_sem, ↓reduceIte, reduceCtorEq, nA, nB, nC, nD, nE, nF, nG, nH, iA, cast0, cast1, lA, lB, lC, lD, lE, mapV_nil, List.all_toArray', *]
          · clear r979
            intro s996 r979 h1000 h1004 Khc999
            dsimp only [Sum.elim_inl] at r979
            simp only [go_sem, ↓reduceIte, reduceCtorEq, nA, nB, nC, nD, nE, nF, nG, nH, iA, *]
            obtain ⟨y1012, h1013, r1014⟩ := bindS r979
            clear r979
            try dsimp only at r1014
            cases h1015 : y1012 with
            | true =>
              simp only [h1015, ↓reduceIte, Bool.false_eq_true] at r1014
              refine call_meets ((linear_Valid_ok h1013).le ?_) (by first | (simp only [go_sem, ↓reduceIte, reduceCtorEq, nA, nB, nC, nD, nE, nF, nG, nH, iA, *] <;> rfl) | rfl) ?_
              · simp (maxDischargeDepth := 40) only [go_sem, ↓reduceIte, reduceCtorEq, nA, nB, nC, nD, nE, nF, nG, nH, iA, cast0, cast1, lA, lB, lC, lD, lE, mapV_nil, *]
              simp only [go_sem, ↓reduceIte, reduceCtorEq, nA, nB, nC, nD, nE, nF, nG, nH, iA, *]
              cases r1014
              simp (maxDischargeDepth := 40) only [go_sem, ↓reduceIte, reduceCtorEq, nA, nB, nC, nD, nE, nF, nG, nH, iA, cast0, cast1, lA, lB, lC, lD, lE, mapV_nil, *]
            | false =>
              simp only [h1015, ↓reduceIte, Bool.false_eq_true] at r1014
              refine call_meets ((linear_Valid_ok h1013).le ?_) (by first | (simp only [go_sem, ↓reduceIte, reduceCtorEq, nA, nB, nC, nD, nE, nF, nG, nH, iA, *] <;> rfl) | rfl) ?_
              · simp (maxDischargeDepth := 40) only [go_sem, ↓reduceIte, reduceCtorEq, nA, nB, nC, nD, nE, nF, nG, nH, iA, cast0, cast1, lA, lB, lC, lD, lE, mapV_nil, *]
              simp only [go_sem, ↓reduceIte, reduceCtorEq, nA, nB, nC, nD, nE, nF, nG, nH, iA, *]
              cases r1014
              simp (maxDischargeDepth := 40) only [go_sem, ↓reduceIte, reduceCtorEq, nA, nB, nC, nD, nE, nF, nG, nH, iA, cast0, cast1, lA, lB, lC, lD, lE, mapV_nil, *]
    | false =>
      simp only [h927, ↓reduceIte, Bool.false_eq_true] at r926
      refine call_meets ((linear_Valid_ok h925).le ?_) (by first | (simp only [go_sem, ↓reduceIte, reduceCtorEq, nA, nB, nC, nD, nE, nF, nG, nH, iA, *] <;> rfl) | rfl) ?_
      · simp (maxDischargeDepth := 40) only [go_sem, ↓reduceIte, reduceCtorEq, nA, nB, nC, nD, nE, nF, nG, nH, iA, cast0, cast1, lA, lB, lC, lD, lE, mapV_nil, *]
      simp only [go_sem, ↓reduceIte, reduceCtorEq, nA, nB, nC, nD, nE, nF, nG, nH, iA, *]
      cases r926
      simp (maxDischargeDepth := 40) only [go_sem, ↓reduceIte, reduceCtorEq, nA, nB, nC, nD, nE, nF, nG, nH, iA, cast0, cast1, lA, lB, lC, lD, lE, mapV_nil, *]
  | false =>
    simp only [h923, ↓reduceIte, Bool.false_eq_true] at r922
    refine call_meets ((linear_Valid_ok h921).le ?_) (by first | (simp only [go_sem, ↓reduceIte, reduceCtorEq, nA, nB, nC, nD, nE, nF, nG, nH, iA, *] <;> rfl) | rfl) ?_
    · simp (maxDischargeDepth := 40) only [go_sem, ↓reduceIte, reduceCtorEq, nA, nB, nC, nD, nE, nF, nG, nH, iA, cast0, cast1, lA, lB, lC, lD, lE, mapV_nil, *]
    simp only [go_sem, ↓reduceIte, reduceCtorEq, nA, nB, nC, nD, nE, nF, nG, nH, iA, *]
    cases r922
    simp (maxDischargeDepth := 40) only [go_sem, ↓reduceIte, reduceCtorEq, nA, nB, nC, nD, nE, nF, nG, nH, iA, cast0, cast1, lA, lB, lC, lD, lE, mapV_nil, *]

def linear_Sub (a0 : Int × (List (ByteArray × Int))) (a1 : Int × (List (ByteArray × Int))) : Option ((Int × (List (ByteArray × Int))) × Int) :=
  (linear_combine a0 a1 (-1 : Int)).bind fun y1016 =>
some (y1016.1, y1016.2)
set_option maxHeartbeats 2000000 in
theorem linear_Sub_ok {a0 : Int × (List (ByteArray × Int))} {a1 : Int × (List (ByteArray × Int))} {r : (Int × (List (ByteArray × Int))) × Int} (hr : linear_Sub a0 a1 = some r) : Meets Try.prog 54 [.agg [.c (.int .i64 a0.1), .sl false 2 (a0.2.map e_api_Coef)], .agg [.c (.int .i64 a1.1), .sl false 2 (a1.2.map e_api_Coef)]] (.tup [.agg [.c (.int .i64 r.1.1), .sl false 2 (r.1.2.map e_api_Coef)], .c (.int .i64 r.2)]) := by
  unfold linear_Sub at hr
  refine meetsV_of (X := true) Ty.mixed Try.func54 (by kernel_rfl) rfl (by kernel_rfl) (by simp) ?_; rw [Try.ntmps54, Try.results54]
  simp only [go_sem, ↓reduceIte, reduceCtorEq, nA, nB, nC, nD, nE, nF, nG, nH, iA, *]
  obtain ⟨y1016, h1017, r1018⟩ := bindS hr
  clear hr
  try dsimp only at r1018
  refine call_meets ((linear_combine_ok h1017).le ?_) (by first | (simp only [go_sem, ↓reduceIte, reduceCtorEq, nA, nB, nC, nD, nE, nF, nG, nH, iA, *] <;> rfl) | rfl) ?_
  · simp (maxDischargeDepth := 40) only [go_sem, ↓reduceIte, reduceCtorEq, nA, nB, nC, nD, nE, nF, nG, nH, iA, cast0, cast1, lA, lB, lC, lD, lE, mapV_nil, *]
  simp only [go_sem, ↓reduceIte, reduceCtorEq, nA, nB, nC, nD, nE, nF, nG, nH, iA, *]
  cases r1018
  simp (maxDischargeDepth := 40) only [go_sem, ↓reduceIte, reduceCtorEq, nA, nB, nC, nD, nE, nF, nG, nH, iA, cast0, cast1, lA, lB, lC, lD, lE, mapV_nil, *]

def certificate_Negate (a0 : Int × (List (ByteArray × Int))) : Option ((Int × (List (ByteArray × Int))) × Int) :=
  (linear_Valid a0).bind fun y913 =>
if y913 then
  (linear_Of (-1 : Int)).bind fun y917 =>
  (linear_Sub y917 a0).bind fun y1019 =>
  some (y1019.1, y1019.2)
else
  some (((0 : Int), []), (1 : Int))
set_option maxHeartbeats 2000000 in
theorem certificate_Negate_ok {a0 : Int × (List (ByteArray × Int))} {r : (Int × (List (ByteArray × Int))) × Int} (hr : certificate_Negate a0 = some r) : Meets Try.prog 26 [.agg [.c (.int .i64 a0.1), .sl false 2 (a0.2.map e_api_Coef)]] (.tup [.agg [.c (.int .i64 r.1.1), .sl false 2 (r.1.2.map e_api_Coef)], .c (.int .i64 r.2)]) := by
  unfold certificate_Negate at hr
  refine meetsV_of (X := true) Ty.mixed Try.func26 (by kernel_rfl) rfl (by kernel_rfl) (by simp) ?_; rw [Try.ntmps26, Try.results26]
  simp only [go_sem, ↓reduceIte, reduceCtorEq, nA, nB, nC, nD, nE, nF, nG, nH, iA, *]
  obtain ⟨y913, h914, r915⟩ := bindS hr
  clear hr
  try dsimp only at r915
  cases h916 : y913 with
  | true =>
    simp only [h916, ↓reduceIte, Bool.false_eq_true] at r915
    refine call_meets ((linear_Valid_ok h914).le ?_) (by first | (simp only [go_sem, ↓reduceIte, reduceCtorEq, nA, nB, nC, nD, nE, nF, nG, nH, iA, *] <;> rfl) | rfl) ?_
    · simp (maxDischargeDepth := 40) only [go_sem, ↓reduceIte, reduceCtorEq, nA, nB, nC, nD, nE, nF, nG, nH, iA, cast0, cast1, lA, lB, lC, lD, lE, mapV_nil, *]
    simp only [go_sem, ↓reduceIte, reduceCtorEq, nA, nB, nC, nD, nE, nF, nG, nH, iA, *]
    refine drawS_tail (by kernel_rfl) ?_
    simp only [go_sem, ↓reduceIte, reduceCtorEq, nA, nB, nC, nD, nE, nF, nG, nH, iA, *]
    obtain ⟨y917, h918, r919⟩ := bindS r915
    clear r915
    try dsimp only at r919
    refine calld_meets ((linear_Of_ok h918).le ?_) (by first | (simp only [go_sem, ↓reduceIte, reduceCtorEq, nA, nB, nC, nD, nE, nF, nG, nH, iA, *] <;> rfl) | rfl) (by simp only [go_sem, ↓reduceIte, reduceCtorEq, nA, nB, nC, nD, nE, nF, nG, nH, iA, *]) ?_
    · simp (maxDischargeDepth := 40) only [go_sem, ↓reduceIte, reduceCtorEq, nA, nB, nC, nD, nE, nF, nG, nH, iA, cast0, cast1, lA, lB, lC, lD, lE, mapV_nil, *]
    simp only [go_sem, ↓reduceIte, reduceCtorEq, nA, nB, nC, nD, nE, nF, nG, nH, iA, *]
    obtain ⟨y1019, h1020, r1021⟩ := bindS r919
    clear r919
    try dsimp only at r1021
    refine calld_meets ((linear_Sub_ok h1020).le ?_) (by first | (simp only [go_sem, ↓reduceIte, reduceCtorEq, nA, nB, nC, nD, nE, nF, nG, nH, iA, *] <;> rfl) | rfl) (by simp only [go_sem, ↓reduceIte, reduceCtorEq, nA, nB, nC, nD, nE, nF, nG, nH, iA, *]) ?_
    · simp (maxDischargeDepth := 40) only [go_sem, ↓reduceIte, reduceCtorEq, nA, nB, nC, nD, nE, nF, nG, nH, iA, cast0, cast1, lA, lB, lC, lD, lE, mapV_nil, *]
    simp only [go_sem, ↓reduceIte, reduceCtorEq, nA, nB, nC, nD, nE, nF, nG, nH, iA, *]
    cases r1021
    simp (maxDischargeDepth := 40) only [go_sem, ↓reduceIte, reduceCtorEq, nA, nB, nC, nD, nE, nF, nG, nH, iA, cast0, cast1, lA, lB, lC, lD, lE, mapV_nil, *]
  | false =>
    simp only [h916, ↓reduceIte, Bool.false_eq_true] at r915
    refine call_meets ((linear_Valid_ok h914).le ?_) (by first | (simp only [go_sem, ↓reduceIte, reduceCtorEq, nA, nB, nC, nD, nE, nF, nG, nH, iA, *] <;> rfl) | rfl) ?_
    · simp (maxDischargeDepth := 40) only [go_sem, ↓reduceIte, reduceCtorEq, nA, nB, nC, nD, nE, nF, nG, nH, iA, cast0, cast1, lA, lB, lC, lD, lE, mapV_nil, *]
    simp only [go_sem, ↓reduceIte, reduceCtorEq, nA, nB, nC, nD, nE, nF, nG, nH, iA, *]
    cases r915
    simp (maxDischargeDepth := 40) only [go_sem, ↓reduceIte, reduceCtorEq, nA, nB, nC, nD, nE, nF, nG, nH, iA, cast0, cast1, lA, lB, lC, lD, lE, mapV_nil, *]

def slices_Equal_L_api_Coef (a0 : List (ByteArray × Int)) (a1 : List (ByteArray × Int)) : Option Bool :=
  if (((a0.length : Nat) : Int) != ((a1.length : Nat) : Int)) then
  some false
else
  (forC (R := Bool) (a0.length) (() : Unit) fun k1191 s1190 =>
    (a0[k1191]?).bind fun x1199 =>
    (a1[k1191]?).bind fun x1203 =>
    if (eqB x1199.1 x1203.1) then
      if (x1199.2 == x1203.2) then
        some (.nx ())
      else
        some (.rt false)
    else
      some (.rt false)).bind (Sum.elim (fun s1190 =>
    some true) some)
set_option maxHeartbeats 2000000 in
theorem slices_Equal_L_api_Coef_ok {a0 : List (ByteArray × Int)} {a1 : List (ByteArray × Int)} {r : Bool} (hr : slices_Equal_L_api_Coef a0 a1 = some r) : Meets Try.prog 82 [.sl false 2 (a0.map e_api_Coef), .sl false 2 (a1.map e_api_Coef)] (.c (.bool r)) := by
  unfold slices_Equal_L_api_Coef at hr
  refine meetsV_of (X := true) Ty.mixed Try.func82 (by kernel_rfl) rfl (by kernel_rfl) (by simp) ?_; rw [Try.ntmps82, Try.results82]
  cases h1166 : (((a0.length : Nat) : Int) != ((a1.length : Nat) : Int)) with
  | true =>
    simp only [h1166, ↓reduceIte, Bool.false_eq_true] at hr
    simp only [go_sem, ↓reduceIte, reduceCtorEq, nA, nB, nC, nD, nE, nF, nG, nH, iA, *]
    cases hr
    simp (maxDischargeDepth := 40) only [go_sem, ↓reduceIte, reduceCtorEq, nA, nB, nC, nD, nE, nF, nG, nH, iA, cast0, cast1, lA, lB, lC, lD, lE, mapV_nil, *]
  | false =>
    simp only [h1166, ↓reduceIte, Bool.false_eq_true] at hr
    simp only [go_sem, ↓reduceIte, reduceCtorEq, nA, nB, nC, nD, nE, nF, nG, nH, iA, *]
    refine loop_for hr (fun k1191 s1190 => ⟨26, [(0, .sl false 2 (a0.map e_api_Coef)), (1, .sl false 2 (a1.map e_api_Coef)), (12, .c (.int .i64 ((a0.length : Nat) : Int))), (13, .c (.int .i64 (k1191 : Int)))], []⟩) ?_ ?_ ?_
    · try dsimp only
      refine LeS.pick [] rfl rfl ?_ ?_
      all_goals simp (maxDischargeDepth := 40) only [go_sem, ↓reduceIte, reduceCtorEq, nA, nB, nC, nD, nE, nF, nG, nH, iA, cast0, cast1, lA, lB, lC, lD, lE, mapV_nil, *]
    · intro k1191 s1190 qhc1193 h1194 h1195 h1196 h1197 hq1192 hc1193 Khc1193 hKhc1193
      try dsimp only at hq1192
      simp only [go_sem, ↓reduceIte, reduceCtorEq, nA, nB, nC, nD, nE, nF, nG, nH, iA, *]
      obtain ⟨x1199, h1200, r1201⟩ := bindS hq1192
      clear hq1192
      try dsimp only at r1201
      obtain ⟨x1203, h1204, r1205⟩ := bindS r1201
      clear r1201
      try dsimp only at r1205
      cases h1207 : (eqB x1199.1 x1203.1) with
      | true =>
        simp only [h1207, ↓reduceIte, Bool.false_eq_true] at r1205
        cases h1208 : (x1199.2 == x1203.2) with
        | true =>
          simp only [h1208, ↓reduceIte, Bool.false_eq_true] at r1205
          refine drawS_tail (by kernel_rfl) ?_
          have g45 := get_map e_api_Coef h1200
          have g46 := get_map e_api_Coef h1204
          simp only [go_sem, ↓reduceIte, reduceCtorEq, nA, nB, nC, nD, nE, nF, nG, nH, iA, *]
          cases r1205
          refine hKhc1193 _ _ rfl ?_
          try dsimp only
          refine LeS.pick [] rfl rfl ?_ ?_
          all_goals simp (maxDischargeDepth := 40) only [go_sem, ↓reduceIte, reduceCtorEq, nA, nB, nC, nD, nE, nF, nG, nH, iA, cast0, cast1, lA, lB, lC, lD, lE, mapV_nil, *]
        | false =>
          simp only [h1208, ↓reduceIte, Bool.false_eq_true] at r1205
          refine drawS_tail (by kernel_rfl) ?_
          have g47 := get_map e_api_Coef h1200
          have g48 := get_map e_api_Coef h1204
          simp only [go_sem, ↓reduceIte, reduceCtorEq, nA, nB, nC, nD, nE, nF, nG, nH, iA, *]
          cases r1205
          dsimp only [St.on, Sum.elim_inr] at hc1193
          cases hc1193
          simp (maxDischargeDepth := 40) only [go_sem, ↓reduceIte, reduceCtorEq, nA, nB, nC, nD, nE, nF, nG, nH, iA, cast0, cast1, lA, lB, lC, lD, lE, mapV_nil, *]
      | false =>
        simp only [h1207, ↓reduceIte, Bool.false_eq_true] at r1205
        refine drawS_tail (by kernel_rfl) ?_
        have g49 := get_map e_api_Coef h1200
        have g50 := get_map e_api_Coef h1204
        simp only [go_sem, ↓reduceIte, reduceCtorEq, nA, nB, nC, nD, nE, nF, nG, nH, iA, *]
        cases r1205
        dsimp only [St.on, Sum.elim_inr] at hc1193
        cases hc1193
        simp (maxDischargeDepth := 40) only [go_sem, ↓reduceIte, reduceCtorEq, nA, nB, nC, nD, nE, nF, nG, nH, iA, cast0, cast1, lA, lB, lC, lD, lE, mapV_nil, *]
    · clear hr
      intro s1190 hr h1194 h1198 Khc1193
      dsimp only [Sum.elim_inl] at hr
      simp only [go_sem, ↓reduceIte, reduceCtorEq, nA, nB, nC, nD, nE, nF, nG, nH, iA, *]
      cases hr
      simp (maxDischargeDepth := 40) only [go_sem, ↓reduceIte, reduceCtorEq, nA, nB, nC, nD, nE, nF, nG, nH, iA, cast0, cast1, lA, lB, lC, lD, lE, mapV_nil, *]

def linear_Equal (a0 : Int × (List (ByteArray × Int))) (a1 : Int × (List (ByteArray × Int))) : Option Bool :=
  if (a0.1 == a1.1) then
  (slices_Equal_L_api_Coef a0.2 a1.2).bind fun y1209 =>
  some y1209
else
  some false
set_option maxHeartbeats 2000000 in
theorem linear_Equal_ok {a0 : Int × (List (ByteArray × Int))} {a1 : Int × (List (ByteArray × Int))} {r : Bool} (hr : linear_Equal a0 a1 = some r) : Meets Try.prog 62 [.agg [.c (.int .i64 a0.1), .sl false 2 (a0.2.map e_api_Coef)], .agg [.c (.int .i64 a1.1), .sl false 2 (a1.2.map e_api_Coef)]] (.c (.bool r)) := by
  unfold linear_Equal at hr
  refine meetsV_of (X := true) Ty.mixed Try.func62 (by kernel_rfl) rfl (by kernel_rfl) (by simp) ?_; rw [Try.ntmps62, Try.results62]
  cases h1165 : (a0.1 == a1.1) with
  | true =>
    simp only [h1165, ↓reduceIte, Bool.false_eq_true] at hr
    simp only [go_sem, ↓reduceIte, reduceCtorEq, nA, nB, nC, nD, nE, nF, nG, nH, iA, *]
    obtain ⟨y1209, h1210, r1211⟩ := bindS hr
    clear hr
    try dsimp only at r1211
    refine call_meets ((slices_Equal_L_api_Coef_ok h1210).le ?_) (by first | (simp only [go_sem, ↓reduceIte, reduceCtorEq, nA, nB, nC, nD, nE, nF, nG, nH, iA, *] <;> rfl) | rfl) ?_
    · simp (maxDischargeDepth := 40) only [go_sem, ↓reduceIte, reduceCtorEq, nA, nB, nC, nD, nE, nF, nG, nH, iA, cast0, cast1, lA, lB, lC, lD, lE, mapV_nil, *]
    simp only [go_sem, ↓reduceIte, reduceCtorEq, nA, nB, nC, nD, nE, nF, nG, nH, iA, *]
    cases r1211
    simp (maxDischargeDepth := 40) only [go_sem, ↓reduceIte, reduceCtorEq, nA, nB, nC, nD, nE, nF, nG, nH, iA, cast0, cast1, lA, lB, lC, lD, lE, mapV_nil, *]
  | false =>
    simp only [h1165, ↓reduceIte, Bool.false_eq_true] at hr
    simp only [go_sem, ↓reduceIte, reduceCtorEq, nA, nB, nC, nD, nE, nF, nG, nH, iA, *]
    cases hr
    simp (maxDischargeDepth := 40) only [go_sem, ↓reduceIte, reduceCtorEq, nA, nB, nC, nD, nE, nF, nG, nH, iA, cast0, cast1, lA, lB, lC, lD, lE, mapV_nil, *]

def certificate_refutes : Nat → (List (Bool × (Int × (List (ByteArray × Int))))) → T_api_Cert → Option Bool
  | 0, _, _ => none
  | fuel + 1, a0, a1 =>
  if (a1.f0 == (3 : Int)) then
  if (decide ((0 : Int) < ((a1.f1.length : Nat) : Int))) then
    some false
  else
    if (a1.f0 == (1 : Int)) then
      if (((a1.f3.length : Nat) : Int) == (0 : Int)) then
        (certificate_combine a0 a1.f1).bind fun y883 =>
        if (y883.2.2 == (0 : Int)) then
          if (((y883.1.length : Nat) : Int) == (0 : Int)) then
            some (decide (y883.2.1 < (0 : Int)))
          else
            some false
        else
          some false
      else
        if (a1.f0 == (2 : Int)) then
          if (((a1.f3.length : Nat) : Int) == (1 : Int)) then
            (certificate_cut a0 a1.f1).bind fun y890 =>
            if (y890.2 == (0 : Int)) then
              (certificate_refutes_1__v y890.1 a0).bind fun y902 =>
              (a1.f3[0]?).bind fun x905 =>
              (certificate_refutes fuel y902 x905).bind fun y909 =>
              some y909
            else
              some false
          else
            if (((a1.f3.length : Nat) : Int) == (2 : Int)) then
              (certificate_Negate a1.f2).bind fun y1022 =>
              if (y1022.2 == (0 : Int)) then
                (certificate_refutes_1__v a1.f2 a0).bind fun y1034 =>
                (a1.f3[0]?).bind fun x1037 =>
                (certificate_refutes fuel y1034 x1037).bind fun y1041 =>
                if y1041 then
                  (certificate_refutes_1__v y1022.1 a0).bind fun y1045 =>
                  (a1.f3[1]?).bind fun x1048 =>
                  (certificate_refutes fuel y1045 x1048).bind fun y1052 =>
                  some y1052
                else
                  some false
              else
                some false
            else
              some false
        else
          if (((a1.f3.length : Nat) : Int) == (2 : Int)) then
            (certificate_Negate a1.f2).bind fun y1056 =>
            if (y1056.2 == (0 : Int)) then
              (certificate_refutes_1__v a1.f2 a0).bind fun y1064 =>
              (a1.f3[0]?).bind fun x1067 =>
              (certificate_refutes fuel y1064 x1067).bind fun y1071 =>
              if y1071 then
                (certificate_refutes_1__v y1056.1 a0).bind fun y1075 =>
                (a1.f3[1]?).bind fun x1078 =>
                (certificate_refutes fuel y1075 x1078).bind fun y1082 =>
                some y1082
              else
                some false
            else
              some false
          else
            some false
    else
      if (a1.f0 == (2 : Int)) then
        if (((a1.f3.length : Nat) : Int) == (1 : Int)) then
          (certificate_cut a0 a1.f1).bind fun y1087 =>
          if (y1087.2 == (0 : Int)) then
            (certificate_refutes_1__v y1087.1 a0).bind fun y1095 =>
            (a1.f3[0]?).bind fun x1098 =>
            (certificate_refutes fuel y1095 x1098).bind fun y1102 =>
            some y1102
          else
            some false
        else
          if (((a1.f3.length : Nat) : Int) == (2 : Int)) then
            (certificate_Negate a1.f2).bind fun y1106 =>
            if (y1106.2 == (0 : Int)) then
              (certificate_refutes_1__v a1.f2 a0).bind fun y1114 =>
              (a1.f3[0]?).bind fun x1117 =>
              (certificate_refutes fuel y1114 x1117).bind fun y1121 =>
              if y1121 then
                (certificate_refutes_1__v y1106.1 a0).bind fun y1125 =>
                (a1.f3[1]?).bind fun x1128 =>
                (certificate_refutes fuel y1125 x1128).bind fun y1132 =>
                some y1132
              else
                some false
            else
              some false
          else
            some false
      else
        if (((a1.f3.length : Nat) : Int) == (2 : Int)) then
          (certificate_Negate a1.f2).bind fun y1136 =>
          if (y1136.2 == (0 : Int)) then
            (certificate_refutes_1__v a1.f2 a0).bind fun y1144 =>
            (a1.f3[0]?).bind fun x1147 =>
            (certificate_refutes fuel y1144 x1147).bind fun y1151 =>
            if y1151 then
              (certificate_refutes_1__v y1136.1 a0).bind fun y1155 =>
              (a1.f3[1]?).bind fun x1158 =>
              (certificate_refutes fuel y1155 x1158).bind fun y1162 =>
              some y1162
            else
              some false
          else
            some false
        else
          some false
else
  (linear_Equal a1.f2 ((0 : Int), [])).bind fun y1212 =>
  if y1212 then
    if (a1.f0 == (1 : Int)) then
      if (((a1.f3.length : Nat) : Int) == (0 : Int)) then
        (certificate_combine a0 a1.f1).bind fun y1218 =>
        if (y1218.2.2 == (0 : Int)) then
          if (((y1218.1.length : Nat) : Int) == (0 : Int)) then
            some (decide (y1218.2.1 < (0 : Int)))
          else
            some false
        else
          some false
      else
        if (a1.f0 == (2 : Int)) then
          if (((a1.f3.length : Nat) : Int) == (1 : Int)) then
            (certificate_cut a0 a1.f1).bind fun y1225 =>
            if (y1225.2 == (0 : Int)) then
              (certificate_refutes_1__v y1225.1 a0).bind fun y1233 =>
              (a1.f3[0]?).bind fun x1236 =>
              (certificate_refutes fuel y1233 x1236).bind fun y1240 =>
              some y1240
            else
              some false
          else
            some false
        else
          some false
    else
      if (a1.f0 == (2 : Int)) then
        if (((a1.f3.length : Nat) : Int) == (1 : Int)) then
          (certificate_cut a0 a1.f1).bind fun y1245 =>
          if (y1245.2 == (0 : Int)) then
            (certificate_refutes_1__v y1245.1 a0).bind fun y1253 =>
            (a1.f3[0]?).bind fun x1256 =>
            (certificate_refutes fuel y1253 x1256).bind fun y1260 =>
            some y1260
          else
            some false
        else
          some false
      else
        some false
  else
    some false
set_option maxHeartbeats 2000000 in
theorem certificate_refutes_all (fuel : Nat) : ∀ {a0 : List (Bool × (Int × (List (ByteArray × Int))))} {a1 : T_api_Cert} {r : Bool}, certificate_refutes fuel a0 a1 = some r → Meets Try.prog 41 [.sl false 3 (a0.map e_api_Fact), .agg [.c (.int .i64 a1.f0), .sl false 1 (a1.f1.map e_int), .c (.int .i64 a1.f2.1), .sl false 2 (a1.f2.2.map e_api_Coef), .sl false 5 (a1.f3.map e_api_Cert)]] (.c (.bool r)) := by
  induction fuel with
  | zero =>
    · intro a0 a1 r hr
      rw [certificate_refutes] at hr
      cases hr
  | succ fuel ih =>
    have ih_certificate_refutes := @ih
    · intro a0 a1 r hr
      rw [certificate_refutes] at hr
      refine meetsV_of (X := true) Ty.mixed Try.func41 (by kernel_rfl) rfl (by kernel_rfl) (by simp) ?_; rw [Try.ntmps41, Try.results41]
      cases h879 : (a1.f0 == (3 : Int)) with
      | true =>
        simp only [h879, ↓reduceIte, Bool.false_eq_true] at hr
        cases h880 : (decide ((0 : Int) < ((a1.f1.length : Nat) : Int))) with
        | true =>
          simp only [h880, ↓reduceIte, Bool.false_eq_true] at hr
          simp only [go_sem, ↓reduceIte, reduceCtorEq, nA, nB, nC, nD, nE, nF, nG, nH, iA, *]
          cases hr
          simp (maxDischargeDepth := 40) only [go_sem, ↓reduceIte, reduceCtorEq, nA, nB, nC, nD, nE, nF, nG, nH, iA, cast0, cast1, lA, lB, lC, lD, lE, mapV_nil, *]
        | false =>
          simp only [h880, ↓reduceIte, Bool.false_eq_true] at hr
          cases h881 : (a1.f0 == (1 : Int)) with
          | true =>
            simp only [h881, ↓reduceIte, Bool.false_eq_true] at hr
            cases h882 : (((a1.f3.length : Nat) : Int) == (0 : Int)) with
            | true =>
              simp only [h882, ↓reduceIte, Bool.false_eq_true] at hr
              simp only [go_sem, ↓reduceIte, reduceCtorEq, nA, nB, nC, nD, nE, nF, nG, nH, iA, *]
              obtain ⟨y883, h884, r885⟩ := bindS hr
              clear hr
              try dsimp only at r885
              cases h886 : (y883.2.2 == (0 : Int)) with
              | true =>
                simp only [h886, ↓reduceIte, Bool.false_eq_true] at r885
                cases h887 : (((y883.1.length : Nat) : Int) == (0 : Int)) with
                | true =>
                  simp only [h887, ↓reduceIte, Bool.false_eq_true] at r885
                  refine call_meets ((certificate_combine_ok h884).le ?_) (by first | (simp only [go_sem, ↓reduceIte, reduceCtorEq, nA, nB, nC, nD, nE, nF, nG, nH, iA, *] <;> rfl) | rfl) ?_
                  · simp (maxDischargeDepth := 40) only [go_sem, ↓reduceIte, reduceCtorEq, nA, nB, nC, nD, nE, nF, nG, nH, iA, cast0, cast1, lA, lB, lC, lD, lE, mapV_nil, *]
                  simp only [go_sem, ↓reduceIte, reduceCtorEq, nA, nB, nC, nD, nE, nF, nG, nH, iA, *]
                  cases r885
                  simp (maxDischargeDepth := 40) only [go_sem, ↓reduceIte, reduceCtorEq, nA, nB, nC, nD, nE, nF, nG, nH, iA, cast0, cast1, lA, lB, lC, lD, lE, mapV_nil, *]
                | false =>
                  simp only [h887, ↓reduceIte, Bool.false_eq_true] at r885
                  refine call_meets ((certificate_combine_ok h884).le ?_) (by first | (simp only [go_sem, ↓reduceIte, reduceCtorEq, nA, nB, nC, nD, nE, nF, nG, nH, iA, *] <;> rfl) | rfl) ?_
                  · simp (maxDischargeDepth := 40) only [go_sem, ↓reduceIte, reduceCtorEq, nA, nB, nC, nD, nE, nF, nG, nH, iA, cast0, cast1, lA, lB, lC, lD, lE, mapV_nil, *]
                  simp only [go_sem, ↓reduceIte, reduceCtorEq, nA, nB, nC, nD, nE, nF, nG, nH, iA, *]
                  cases r885
                  simp (maxDischargeDepth := 40) only [go_sem, ↓reduceIte, reduceCtorEq, nA, nB, nC, nD, nE, nF, nG, nH, iA, cast0, cast1, lA, lB, lC, lD, lE, mapV_nil, *]
              | false =>
                simp only [h886, ↓reduceIte, Bool.false_eq_true] at r885
                refine call_meets ((certificate_combine_ok h884).le ?_) (by first | (simp only [go_sem, ↓reduceIte, reduceCtorEq, nA, nB, nC, nD, nE, nF, nG, nH, iA, *] <;> rfl) | rfl) ?_
                · simp (maxDischargeDepth := 40) only [go_sem, ↓reduceIte, reduceCtorEq, nA, nB, nC, nD, nE, nF, nG, nH, iA, cast0, cast1, lA, lB, lC, lD, lE, mapV_nil, *]
                simp only [go_sem, ↓reduceIte, reduceCtorEq, nA, nB, nC, nD, nE, nF, nG, nH, iA, *]
                cases r885
                simp (maxDischargeDepth := 40) only [go_sem, ↓reduceIte, reduceCtorEq, nA, nB, nC, nD, nE, nF, nG, nH, iA, cast0, cast1, lA, lB, lC, lD, lE, mapV_nil, *]
            | false =>
              simp only [h882, ↓reduceIte, Bool.false_eq_true] at hr
              cases h888 : (a1.f0 == (2 : Int)) with
              | true =>
                simp only [h888, ↓reduceIte, Bool.false_eq_true] at hr
                cases h889 : (((a1.f3.length : Nat) : Int) == (1 : Int)) with
                | true =>
                  simp only [h889, ↓reduceIte, Bool.false_eq_true] at hr
                  simp only [go_sem, ↓reduceIte, reduceCtorEq, nA, nB, nC, nD, nE, nF, nG, nH, iA, *]
                  obtain ⟨y890, h891, r892⟩ := bindS hr
                  clear hr
                  try dsimp only at r892
                  refine call_meets ((certificate_cut_ok h891).le ?_) (by first | (simp only [go_sem, ↓reduceIte, reduceCtorEq, nA, nB, nC, nD, nE, nF, nG, nH, iA, *] <;> rfl) | rfl) ?_
                  · simp (maxDischargeDepth := 40) only [go_sem, ↓reduceIte, reduceCtorEq, nA, nB, nC, nD, nE, nF, nG, nH, iA, cast0, cast1, lA, lB, lC, lD, lE, mapV_nil, *]
                  simp only [go_sem, ↓reduceIte, reduceCtorEq, nA, nB, nC, nD, nE, nF, nG, nH, iA, *]
                  cases h901 : (y890.2 == (0 : Int)) with
                  | true =>
                    simp only [h901, ↓reduceIte, Bool.false_eq_true] at r892
                    refine drawF_wild [0] ?_
                    simp (config := {maxSteps := 2000000}) only [go_sem, ↓reduceIte, reduceCtorEq, nA, nB, nC, nD, nE, nF, nG, nH, iA, frz_is, *]
                    obtain ⟨y902, h903, r904⟩ := bindS r892
                    clear r892
                    try dsimp only at r904
                    obtain ⟨x905, h906, r907⟩ := bindS r904
                    clear r904
                    try dsimp only at r907
                    have g51 := get_map e_api_Cert h906
                    refine callx_meets ((certificate_refutes_1__v_ok h903).le ?_) (by first | (simp (config := {maxSteps := 2000000}) only [go_sem, ↓reduceIte, reduceCtorEq, nA, nB, nC, nD, nE, nF, nG, nH, iA, *] <;> rfl) | rfl) (by simp (config := {maxSteps := 2000000}) only [go_sem, ↓reduceIte, reduceCtorEq, nA, nB, nC, nD, nE, nF, nG, nH, iA, *]) ?_
                    · simp (maxDischargeDepth := 40) only [go_sem, ↓reduceIte, reduceCtorEq, nA, nB, nC, nD, nE, nF, nG, nH, iA, cast0, cast1, lA, lB, lC, lD, lE, mapV_nil, *]
                    simp (config := {maxSteps := 2000000}) only [go_sem, ↓reduceIte, reduceCtorEq, nA, nB, nC, nD, nE, nF, nG, nH, iA, *]
                    obtain ⟨y909, h910, r911⟩ := bindS r907
                    clear r907
                    try dsimp only at r911
                    refine callx_meets ((ih_certificate_refutes h910).le ?_) (by first | (simp (config := {maxSteps := 2000000}) only [go_sem, ↓reduceIte, reduceCtorEq, nA, nB, nC, nD, nE, nF, nG, nH, iA, *] <;> rfl) | rfl) (by simp (config := {maxSteps := 2000000}) only [go_sem, ↓reduceIte, reduceCtorEq, nA, nB, nC, nD, nE, nF, nG, nH, iA, *]) ?_
                    · simp (maxDischargeDepth := 40) only [go_sem, ↓reduceIte, reduceCtorEq, nA, nB, nC, nD, nE, nF, nG, nH, iA, cast0, cast1, lA, lB, lC, lD, lE, mapV_nil, *]
                    simp (config := {maxSteps := 2000000}) only [go_sem, ↓reduceIte, reduceCtorEq, nA, nB, nC, nD, nE, nF, nG, nH, iA, *]
                    repeat refine ⟨by first | omega | (simp only [List.length_append, List.length_cons, List.length_nil, List.length_map, Nat.zero_add] at *; omega), ?_⟩
                    first | refine ⟨by kernel_rfl, ?_⟩ | skip
                    try simp only [go_sem, ↓reduceIte, reduceCtorEq, nA, nB, nC, nD, nE, nF, nG, nH, iA, *]
                    cases r911
                    simp (maxDischargeDepth := 40) only [go_sem, ↓reduceIte, reduceCtorEq, nA, nB, nC, nD, nE, nF, nG, nH, iA, cast0, cast1, lA, lB, lC, lD, lE, mapV_nil, *]
                  | false =>
                    simp only [h901, ↓reduceIte, Bool.false_eq_true] at r892
                    refine drawF_wild [0] ?_
                    simp (config := {maxSteps := 2000000}) only [go_sem, ↓reduceIte, reduceCtorEq, nA, nB, nC, nD, nE, nF, nG, nH, iA, frz_is, *]
                    repeat refine ⟨by first | omega | (simp only [List.length_append, List.length_cons, List.length_nil, List.length_map, Nat.zero_add] at *; omega), ?_⟩
                    first | refine ⟨by kernel_rfl, ?_⟩ | skip
                    try simp only [go_sem, ↓reduceIte, reduceCtorEq, nA, nB, nC, nD, nE, nF, nG, nH, iA, *]
                    cases r892
                    simp (maxDischargeDepth := 40) only [go_sem, ↓reduceIte, reduceCtorEq, nA, nB, nC, nD, nE, nF, nG, nH, iA, cast0, cast1, lA, lB, lC, lD, lE, mapV_nil, *]
                | false =>
                  simp only [h889, ↓reduceIte, Bool.false_eq_true] at hr
                  cases h912 : (((a1.f3.length : Nat) : Int) == (2 : Int)) with
                  | true =>
                    simp only [h912, ↓reduceIte, Bool.false_eq_true] at hr
                    simp only [go_sem, ↓reduceIte, reduceCtorEq, nA, nB, nC, nD, nE, nF, nG, nH, iA, *]
                    obtain ⟨y1022, h1023, r1024⟩ := bindS hr
                    clear hr
                    try dsimp only at r1024
                    refine call_meets ((certificate_Negate_ok h1023).le ?_) (by first | (simp only [go_sem, ↓reduceIte, reduceCtorEq, nA, nB, nC, nD, nE, nF, nG, nH, iA, *] <;> rfl) | rfl) ?_
                    · simp (maxDischargeDepth := 40) only [go_sem, ↓reduceIte, reduceCtorEq, nA, nB, nC, nD, nE, nF, nG, nH, iA, cast0, cast1, lA, lB, lC, lD, lE, mapV_nil, *]
                    simp only [go_sem, ↓reduceIte, reduceCtorEq, nA, nB, nC, nD, nE, nF, nG, nH, iA, *]
                    cases h1033 : (y1022.2 == (0 : Int)) with
                    | true =>
                      simp only [h1033, ↓reduceIte, Bool.false_eq_true] at r1024
                      refine drawF_wild [0] ?_
                      simp (config := {maxSteps := 2000000}) only [go_sem, ↓reduceIte, reduceCtorEq, nA, nB, nC, nD, nE, nF, nG, nH, iA, frz_is, *]
                      obtain ⟨y1034, h1035, r1036⟩ := bindS r1024
                      clear r1024
                      try dsimp only at r1036
                      obtain ⟨x1037, h1038, r1039⟩ := bindS r1036
                      clear r1036
                      try dsimp only at r1039
                      have g52 := get_map e_api_Cert h1038
                      refine callx_meets ((certificate_refutes_1__v_ok h1035).le ?_) (by first | (simp (config := {maxSteps := 2000000}) only [go_sem, ↓reduceIte, reduceCtorEq, nA, nB, nC, nD, nE, nF, nG, nH, iA, *] <;> rfl) | rfl) (by simp (config := {maxSteps := 2000000}) only [go_sem, ↓reduceIte, reduceCtorEq, nA, nB, nC, nD, nE, nF, nG, nH, iA, *]) ?_
                      · simp (maxDischargeDepth := 40) only [go_sem, ↓reduceIte, reduceCtorEq, nA, nB, nC, nD, nE, nF, nG, nH, iA, cast0, cast1, lA, lB, lC, lD, lE, mapV_nil, *]
                      simp (config := {maxSteps := 2000000}) only [go_sem, ↓reduceIte, reduceCtorEq, nA, nB, nC, nD, nE, nF, nG, nH, iA, *]
                      obtain ⟨y1041, h1042, r1043⟩ := bindS r1039
                      clear r1039
                      try dsimp only at r1043
                      cases h1044 : y1041 with
                      | true =>
                        simp only [h1044, ↓reduceIte, Bool.false_eq_true] at r1043
                        refine callx_meets ((ih_certificate_refutes h1042).le ?_) (by first | (simp (config := {maxSteps := 2000000}) only [go_sem, ↓reduceIte, reduceCtorEq, nA, nB, nC, nD, nE, nF, nG, nH, iA, *] <;> rfl) | rfl) (by simp (config := {maxSteps := 2000000}) only [go_sem, ↓reduceIte, reduceCtorEq, nA, nB, nC, nD, nE, nF, nG, nH, iA, *]) ?_
                        · simp (maxDischargeDepth := 40) only [go_sem, ↓reduceIte, reduceCtorEq, nA, nB, nC, nD, nE, nF, nG, nH, iA, cast0, cast1, lA, lB, lC, lD, lE, mapV_nil, *]
                        simp (config := {maxSteps := 2000000}) only [go_sem, ↓reduceIte, reduceCtorEq, nA, nB, nC, nD, nE, nF, nG, nH, iA, *]
                        obtain ⟨y1045, h1046, r1047⟩ := bindS r1043
                        clear r1043
                        try dsimp only at r1047
                        obtain ⟨x1048, h1049, r1050⟩ := bindS r1047
                        clear r1047
                        try dsimp only at r1050
                        have g53 := (by decide : (0 : Int) ≤ 1)
                        have g54 := get_map e_api_Cert h1049
                        refine callx_meets ((certificate_refutes_1__v_ok h1046).le ?_) (by first | (simp (config := {maxSteps := 2000000}) only [go_sem, ↓reduceIte, reduceCtorEq, nA, nB, nC, nD, nE, nF, nG, nH, iA, *] <;> rfl) | rfl) (by simp (config := {maxSteps := 2000000}) only [go_sem, ↓reduceIte, reduceCtorEq, nA, nB, nC, nD, nE, nF, nG, nH, iA, *]) ?_
                        · simp (maxDischargeDepth := 40) only [go_sem, ↓reduceIte, reduceCtorEq, nA, nB, nC, nD, nE, nF, nG, nH, iA, cast0, cast1, lA, lB, lC, lD, lE, mapV_nil, *]
                        simp (config := {maxSteps := 2000000}) only [go_sem, ↓reduceIte, reduceCtorEq, nA, nB, nC, nD, nE, nF, nG, nH, iA, *]
                        obtain ⟨y1052, h1053, r1054⟩ := bindS r1050
                        clear r1050
                        try dsimp only at r1054
                        refine callx_meets ((ih_certificate_refutes h1053).le ?_) (by first | (simp (config := {maxSteps := 2000000}) only [go_sem, ↓reduceIte, reduceCtorEq, nA, nB, nC, nD, nE, nF, nG, nH, iA, *] <;> rfl) | rfl) (by simp (config := {maxSteps := 2000000}) only [go_sem, ↓reduceIte, reduceCtorEq, nA, nB, nC, nD, nE, nF, nG, nH, iA, *]) ?_
                        · simp (maxDischargeDepth := 40) only [go_sem, ↓reduceIte, reduceCtorEq, nA, nB, nC, nD, nE, nF, nG, nH, iA, cast0, cast1, lA, lB, lC, lD, lE, mapV_nil, *]
                        simp (config := {maxSteps := 2000000}) only [go_sem, ↓reduceIte, reduceCtorEq, nA, nB, nC, nD, nE, nF, nG, nH, iA, *]
                        repeat refine ⟨by first | omega | (simp only [List.length_append, List.length_cons, List.length_nil, List.length_map, Nat.zero_add] at *; omega), ?_⟩
                        first | refine ⟨by kernel_rfl, ?_⟩ | skip
                        try simp only [go_sem, ↓reduceIte, reduceCtorEq, nA, nB, nC, nD, nE, nF, nG, nH, iA, *]
                        cases r1054
                        simp (maxDischargeDepth := 40) only [go_sem, ↓reduceIte, reduceCtorEq, nA, nB, nC, nD, nE, nF, nG, nH, iA, cast0, cast1, lA, lB, lC, lD, lE, mapV_nil, *]
                      | false =>
                        simp only [h1044, ↓reduceIte, Bool.false_eq_true] at r1043
                        refine callx_meets ((ih_certificate_refutes h1042).le ?_) (by first | (simp (config := {maxSteps := 2000000}) only [go_sem, ↓reduceIte, reduceCtorEq, nA, nB, nC, nD, nE, nF, nG, nH, iA, *] <;> rfl) | rfl) (by simp (config := {maxSteps := 2000000}) only [go_sem, ↓reduceIte, reduceCtorEq, nA, nB, nC, nD, nE, nF, nG, nH, iA, *]) ?_
                        · simp (maxDischargeDepth := 40) only [go_sem, ↓reduceIte, reduceCtorEq, nA, nB, nC, nD, nE, nF, nG, nH, iA, cast0, cast1, lA, lB, lC, lD, lE, mapV_nil, *]
                        simp (config := {maxSteps := 2000000}) only [go_sem, ↓reduceIte, reduceCtorEq, nA, nB, nC, nD, nE, nF, nG, nH, iA, *]
                        repeat refine ⟨by first | omega | (simp only [List.length_append, List.length_cons, List.length_nil, List.length_map, Nat.zero_add] at *; omega), ?_⟩
                        first | refine ⟨by kernel_rfl, ?_⟩ | skip
                        try simp only [go_sem, ↓reduceIte, reduceCtorEq, nA, nB, nC, nD, nE, nF, nG, nH, iA, *]
                        cases r1043
                        simp (maxDischargeDepth := 40) only [go_sem, ↓reduceIte, reduceCtorEq, nA, nB, nC, nD, nE, nF, nG, nH, iA, cast0, cast1, lA, lB, lC, lD, lE, mapV_nil, *]
                    | false =>
                      simp only [h1033, ↓reduceIte, Bool.false_eq_true] at r1024
                      refine drawF_wild [0] ?_
                      simp (config := {maxSteps := 2000000}) only [go_sem, ↓reduceIte, reduceCtorEq, nA, nB, nC, nD, nE, nF, nG, nH, iA, frz_is, *]
                      repeat refine ⟨by first | omega | (simp only [List.length_append, List.length_cons, List.length_nil, List.length_map, Nat.zero_add] at *; omega), ?_⟩
                      first | refine ⟨by kernel_rfl, ?_⟩ | skip
                      try simp only [go_sem, ↓reduceIte, reduceCtorEq, nA, nB, nC, nD, nE, nF, nG, nH, iA, *]
                      cases r1024
                      simp (maxDischargeDepth := 40) only [go_sem, ↓reduceIte, reduceCtorEq, nA, nB, nC, nD, nE, nF, nG, nH, iA, cast0, cast1, lA, lB, lC, lD, lE, mapV_nil, *]
                  | false =>
                    simp only [h912, ↓reduceIte, Bool.false_eq_true] at hr
                    simp only [go_sem, ↓reduceIte, reduceCtorEq, nA, nB, nC, nD, nE, nF, nG, nH, iA, *]
                    cases hr
                    simp (maxDischargeDepth := 40) only [go_sem, ↓reduceIte, reduceCtorEq, nA, nB, nC, nD, nE, nF, nG, nH, iA, cast0, cast1, lA, lB, lC, lD, lE, mapV_nil, *]
              | false =>
                simp only [h888, ↓reduceIte, Bool.false_eq_true] at hr
                cases h1055 : (((a1.f3.length : Nat) : Int) == (2 : Int)) with
                | true =>
                  simp only [h1055, ↓reduceIte, Bool.false_eq_true] at hr
                  simp only [go_sem, ↓reduceIte, reduceCtorEq, nA, nB, nC, nD, nE, nF, nG, nH, iA, *]
                  obtain ⟨y1056, h1057, r1058⟩ := bindS hr
                  clear hr
                  try dsimp only at r1058
                  refine call_meets ((certificate_Negate_ok h1057).le ?_) (by first | (simp only [go_sem, ↓reduceIte, reduceCtorEq, nA, nB, nC, nD, nE, nF, nG, nH, iA, *] <;> rfl) | rfl) ?_
                  · simp (maxDischargeDepth := 40) only [go_sem, ↓reduceIte, reduceCtorEq, nA, nB, nC, nD, nE, nF, nG, nH, iA, cast0, cast1, lA, lB, lC, lD, lE, mapV_nil, *]
                  simp only [go_sem, ↓reduceIte, reduceCtorEq, nA, nB, nC, nD, nE, nF, nG, nH, iA, *]
                  cases h1063 : (y1056.2 == (0 : Int)) with
                  | true =>
                    simp only [h1063, ↓reduceIte, Bool.false_eq_true] at r1058
                    refine drawF_wild [0] ?_
                    simp (config := {maxSteps := 2000000}) only [go_sem, ↓reduceIte, reduceCtorEq, nA, nB, nC, nD, nE, nF, nG, nH, iA, frz_is, *]
                    obtain ⟨y1064, h1065, r1066⟩ := bindS r1058
                    clear r1058
                    try dsimp only at r1066
                    obtain ⟨x1067, h1068, r1069⟩ := bindS r1066
                    clear r1066
                    try dsimp only at r1069
                    have g55 := get_map e_api_Cert h1068
                    refine callx_meets ((certificate_refutes_1__v_ok h1065).le ?_) (by first | (simp (config := {maxSteps := 2000000}) only [go_sem, ↓reduceIte, reduceCtorEq, nA, nB, nC, nD, nE, nF, nG, nH, iA, *] <;> rfl) | rfl) (by simp (config := {maxSteps := 2000000}) only [go_sem, ↓reduceIte, reduceCtorEq, nA, nB, nC, nD, nE, nF, nG, nH, iA, *]) ?_
                    · simp (maxDischargeDepth := 40) only [go_sem, ↓reduceIte, reduceCtorEq, nA, nB, nC, nD, nE, nF, nG, nH, iA, cast0, cast1, lA, lB, lC, lD, lE, mapV_nil, *]
                    simp (config := {maxSteps := 2000000}) only [go_sem, ↓reduceIte, reduceCtorEq, nA, nB, nC, nD, nE, nF, nG, nH, iA, *]
                    obtain ⟨y1071, h1072, r1073⟩ := bindS r1069
                    clear r1069
                    try dsimp only at r1073
                    cases h1074 : y1071 with
                    | true =>
                      simp only [h1074, ↓reduceIte, Bool.false_eq_true] at r1073
                      refine callx_meets ((ih_certificate_refutes h1072).le ?_) (by first | (simp (config := {maxSteps := 2000000}) only [go_sem, ↓reduceIte, reduceCtorEq, nA, nB, nC, nD, nE, nF, nG, nH, iA, *] <;> rfl) | rfl) (by simp (config := {maxSteps := 2000000}) only [go_sem, ↓reduceIte, reduceCtorEq, nA, nB, nC, nD, nE, nF, nG, nH, iA, *]) ?_
                      · simp (maxDischargeDepth := 40) only [go_sem, ↓reduceIte, reduceCtorEq, nA, nB, nC, nD, nE, nF, nG, nH, iA, cast0, cast1, lA, lB, lC, lD, lE, mapV_nil, *]
                      simp (config := {maxSteps := 2000000}) only [go_sem, ↓reduceIte, reduceCtorEq, nA, nB, nC, nD, nE, nF, nG, nH, iA, *]
                      obtain ⟨y1075, h1076, r1077⟩ := bindS r1073
                      clear r1073
                      try dsimp only at r1077
                      obtain ⟨x1078, h1079, r1080⟩ := bindS r1077
                      clear r1077
                      try dsimp only at r1080
                      have g56 := (by decide : (0 : Int) ≤ 1)
                      have g57 := get_map e_api_Cert h1079
                      refine callx_meets ((certificate_refutes_1__v_ok h1076).le ?_) (by first | (simp (config := {maxSteps := 2000000}) only [go_sem, ↓reduceIte, reduceCtorEq, nA, nB, nC, nD, nE, nF, nG, nH, iA, *] <;> rfl) | rfl) (by simp (config := {maxSteps := 2000000}) only [go_sem, ↓reduceIte, reduceCtorEq, nA, nB, nC, nD, nE, nF, nG, nH, iA, *]) ?_
                      · simp (maxDischargeDepth := 40) only [go_sem, ↓reduceIte, reduceCtorEq, nA, nB, nC, nD, nE, nF, nG, nH, iA, cast0, cast1, lA, lB, lC, lD, lE, mapV_nil, *]
                      simp (config := {maxSteps := 2000000}) only [go_sem, ↓reduceIte, reduceCtorEq, nA, nB, nC, nD, nE, nF, nG, nH, iA, *]
                      obtain ⟨y1082, h1083, r1084⟩ := bindS r1080
                      clear r1080
                      try dsimp only at r1084
                      refine callx_meets ((ih_certificate_refutes h1083).le ?_) (by first | (simp (config := {maxSteps := 2000000}) only [go_sem, ↓reduceIte, reduceCtorEq, nA, nB, nC, nD, nE, nF, nG, nH, iA, *] <;> rfl) | rfl) (by simp (config := {maxSteps := 2000000}) only [go_sem, ↓reduceIte, reduceCtorEq, nA, nB, nC, nD, nE, nF, nG, nH, iA, *]) ?_
                      · simp (maxDischargeDepth := 40) only [go_sem, ↓reduceIte, reduceCtorEq, nA, nB, nC, nD, nE, nF, nG, nH, iA, cast0, cast1, lA, lB, lC, lD, lE, mapV_nil, *]
                      simp (config := {maxSteps := 2000000}) only [go_sem, ↓reduceIte, reduceCtorEq, nA, nB, nC, nD, nE, nF, nG, nH, iA, *]
                      repeat refine ⟨by first | omega | (simp only [List.length_append, List.length_cons, List.length_nil, List.length_map, Nat.zero_add] at *; omega), ?_⟩
                      first | refine ⟨by kernel_rfl, ?_⟩ | skip
                      try simp only [go_sem, ↓reduceIte, reduceCtorEq, nA, nB, nC, nD, nE, nF, nG, nH, iA, *]
                      cases r1084
                      simp (maxDischargeDepth := 40) only [go_sem, ↓reduceIte, reduceCtorEq, nA, nB, nC, nD, nE, nF, nG, nH, iA, cast0, cast1, lA, lB, lC, lD, lE, mapV_nil, *]
                    | false =>
                      simp only [h1074, ↓reduceIte, Bool.false_eq_true] at r1073
                      refine callx_meets ((ih_certificate_refutes h1072).le ?_) (by first | (simp (config := {maxSteps := 2000000}) only [go_sem, ↓reduceIte, reduceCtorEq, nA, nB, nC, nD, nE, nF, nG, nH, iA, *] <;> rfl) | rfl) (by simp (config := {maxSteps := 2000000}) only [go_sem, ↓reduceIte, reduceCtorEq, nA, nB, nC, nD, nE, nF, nG, nH, iA, *]) ?_
                      · simp (maxDischargeDepth := 40) only [go_sem, ↓reduceIte, reduceCtorEq, nA, nB, nC, nD, nE, nF, nG, nH, iA, cast0, cast1, lA, lB, lC, lD, lE, mapV_nil, *]
                      simp (config := {maxSteps := 2000000}) only [go_sem, ↓reduceIte, reduceCtorEq, nA, nB, nC, nD, nE, nF, nG, nH, iA, *]
                      repeat refine ⟨by first | omega | (simp only [List.length_append, List.length_cons, List.length_nil, List.length_map, Nat.zero_add] at *; omega), ?_⟩
                      first | refine ⟨by kernel_rfl, ?_⟩ | skip
                      try simp only [go_sem, ↓reduceIte, reduceCtorEq, nA, nB, nC, nD, nE, nF, nG, nH, iA, *]
                      cases r1073
                      simp (maxDischargeDepth := 40) only [go_sem, ↓reduceIte, reduceCtorEq, nA, nB, nC, nD, nE, nF, nG, nH, iA, cast0, cast1, lA, lB, lC, lD, lE, mapV_nil, *]
                  | false =>
                    simp only [h1063, ↓reduceIte, Bool.false_eq_true] at r1058
                    refine drawF_wild [0] ?_
                    simp (config := {maxSteps := 2000000}) only [go_sem, ↓reduceIte, reduceCtorEq, nA, nB, nC, nD, nE, nF, nG, nH, iA, frz_is, *]
                    repeat refine ⟨by first | omega | (simp only [List.length_append, List.length_cons, List.length_nil, List.length_map, Nat.zero_add] at *; omega), ?_⟩
                    first | refine ⟨by kernel_rfl, ?_⟩ | skip
                    try simp only [go_sem, ↓reduceIte, reduceCtorEq, nA, nB, nC, nD, nE, nF, nG, nH, iA, *]
                    cases r1058
                    simp (maxDischargeDepth := 40) only [go_sem, ↓reduceIte, reduceCtorEq, nA, nB, nC, nD, nE, nF, nG, nH, iA, cast0, cast1, lA, lB, lC, lD, lE, mapV_nil, *]
                | false =>
                  simp only [h1055, ↓reduceIte, Bool.false_eq_true] at hr
                  simp only [go_sem, ↓reduceIte, reduceCtorEq, nA, nB, nC, nD, nE, nF, nG, nH, iA, *]
                  cases hr
                  simp (maxDischargeDepth := 40) only [go_sem, ↓reduceIte, reduceCtorEq, nA, nB, nC, nD, nE, nF, nG, nH, iA, cast0, cast1, lA, lB, lC, lD, lE, mapV_nil, *]
          | false =>
            simp only [h881, ↓reduceIte, Bool.false_eq_true] at hr
            cases h1085 : (a1.f0 == (2 : Int)) with
            | true =>
              simp only [h1085, ↓reduceIte, Bool.false_eq_true] at hr
              cases h1086 : (((a1.f3.length : Nat) : Int) == (1 : Int)) with
              | true =>
                simp only [h1086, ↓reduceIte, Bool.false_eq_true] at hr
                simp only [go_sem, ↓reduceIte, reduceCtorEq, nA, nB, nC, nD, nE, nF, nG, nH, iA, *]
                obtain ⟨y1087, h1088, r1089⟩ := bindS hr
                clear hr
                try dsimp only at r1089
                refine call_meets ((certificate_cut_ok h1088).le ?_) (by first | (simp only [go_sem, ↓reduceIte, reduceCtorEq, nA, nB, nC, nD, nE, nF, nG, nH, iA, *] <;> rfl) | rfl) ?_
                · simp (maxDischargeDepth := 40) only [go_sem, ↓reduceIte, reduceCtorEq, nA, nB, nC, nD, nE, nF, nG, nH, iA, cast0, cast1, lA, lB, lC, lD, lE, mapV_nil, *]
                simp only [go_sem, ↓reduceIte, reduceCtorEq, nA, nB, nC, nD, nE, nF, nG, nH, iA, *]
                cases h1094 : (y1087.2 == (0 : Int)) with
                | true =>
                  simp only [h1094, ↓reduceIte, Bool.false_eq_true] at r1089
                  refine drawF_wild [0] ?_
                  simp (config := {maxSteps := 2000000}) only [go_sem, ↓reduceIte, reduceCtorEq, nA, nB, nC, nD, nE, nF, nG, nH, iA, frz_is, *]
                  obtain ⟨y1095, h1096, r1097⟩ := bindS r1089
                  clear r1089
                  try dsimp only at r1097
                  obtain ⟨x1098, h1099, r1100⟩ := bindS r1097
                  clear r1097
                  try dsimp only at r1100
                  have g58 := get_map e_api_Cert h1099
                  refine callx_meets ((certificate_refutes_1__v_ok h1096).le ?_) (by first | (simp (config := {maxSteps := 2000000}) only [go_sem, ↓reduceIte, reduceCtorEq, nA, nB, nC, nD, nE, nF, nG, nH, iA, *] <;> rfl) | rfl) (by simp (config := {maxSteps := 2000000}) only [go_sem, ↓reduceIte, reduceCtorEq, nA, nB, nC, nD, nE, nF, nG, nH, iA, *]) ?_
                  · simp (maxDischargeDepth := 40) only [go_sem, ↓reduceIte, reduceCtorEq, nA, nB, nC, nD, nE, nF, nG, nH, iA, cast0, cast1, lA, lB, lC, lD, lE, mapV_nil, *]
                  simp (config := {maxSteps := 2000000}) only [go_sem, ↓reduceIte, reduceCtorEq, nA, nB, nC, nD, nE, nF, nG, nH, iA, *]
                  obtain ⟨y1102, h1103, r1104⟩ := bindS r1100
                  clear r1100
                  try dsimp only at r1104
                  refine callx_meets ((ih_certificate_refutes h1103).le ?_) (by first | (simp (config := {maxSteps := 2000000}) only [go_sem, ↓reduceIte, reduceCtorEq, nA, nB, nC, nD, nE, nF, nG, nH, iA, *] <;> rfl) | rfl) (by simp (config := {maxSteps := 2000000}) only [go_sem, ↓reduceIte, reduceCtorEq, nA, nB, nC, nD, nE, nF, nG, nH, iA, *]) ?_
                  · simp (maxDischargeDepth := 40) only [go_sem, ↓reduceIte, reduceCtorEq, nA, nB, nC, nD, nE, nF, nG, nH, iA, cast0, cast1, lA, lB, lC, lD, lE, mapV_nil, *]
                  simp (config := {maxSteps := 2000000}) only [go_sem, ↓reduceIte, reduceCtorEq, nA, nB, nC, nD, nE, nF, nG, nH, iA, *]
                  repeat refine ⟨by first | omega | (simp only [List.length_append, List.length_cons, List.length_nil, List.length_map, Nat.zero_add] at *; omega), ?_⟩
                  first | refine ⟨by kernel_rfl, ?_⟩ | skip
                  try simp only [go_sem, ↓reduceIte, reduceCtorEq, nA, nB, nC, nD, nE, nF, nG, nH, iA, *]
                  cases r1104
                  simp (maxDischargeDepth := 40) only [go_sem, ↓reduceIte, reduceCtorEq, nA, nB, nC, nD, nE, nF, nG, nH, iA, cast0, cast1, lA, lB, lC, lD, lE, mapV_nil, *]
                | false =>
                  simp only [h1094, ↓reduceIte, Bool.false_eq_true] at r1089
                  refine drawF_wild [0] ?_
                  simp (config := {maxSteps := 2000000}) only [go_sem, ↓reduceIte, reduceCtorEq, nA, nB, nC, nD, nE, nF, nG, nH, iA, frz_is, *]
                  repeat refine ⟨by first | omega | (simp only [List.length_append, List.length_cons, List.length_nil, List.length_map, Nat.zero_add] at *; omega), ?_⟩
                  first | refine ⟨by kernel_rfl, ?_⟩ | skip
                  try simp only [go_sem, ↓reduceIte, reduceCtorEq, nA, nB, nC, nD, nE, nF, nG, nH, iA, *]
                  cases r1089
                  simp (maxDischargeDepth := 40) only [go_sem, ↓reduceIte, reduceCtorEq, nA, nB, nC, nD, nE, nF, nG, nH, iA, cast0, cast1, lA, lB, lC, lD, lE, mapV_nil, *]
              | false =>
                simp only [h1086, ↓reduceIte, Bool.false_eq_true] at hr
                cases h1105 : (((a1.f3.length : Nat) : Int) == (2 : Int)) with
                | true =>
                  simp only [h1105, ↓reduceIte, Bool.false_eq_true] at hr
                  simp only [go_sem, ↓reduceIte, reduceCtorEq, nA, nB, nC, nD, nE, nF, nG, nH, iA, *]
                  obtain ⟨y1106, h1107, r1108⟩ := bindS hr
                  clear hr
                  try dsimp only at r1108
                  refine call_meets ((certificate_Negate_ok h1107).le ?_) (by first | (simp only [go_sem, ↓reduceIte, reduceCtorEq, nA, nB, nC, nD, nE, nF, nG, nH, iA, *] <;> rfl) | rfl) ?_
                  · simp (maxDischargeDepth := 40) only [go_sem, ↓reduceIte, reduceCtorEq, nA, nB, nC, nD, nE, nF, nG, nH, iA, cast0, cast1, lA, lB, lC, lD, lE, mapV_nil, *]
                  simp only [go_sem, ↓reduceIte, reduceCtorEq, nA, nB, nC, nD, nE, nF, nG, nH, iA, *]
                  cases h1113 : (y1106.2 == (0 : Int)) with
                  | true =>
                    simp only [h1113, ↓reduceIte, Bool.false_eq_true] at r1108
                    refine drawF_wild [0] ?_
                    simp (config := {maxSteps := 2000000}) only [go_sem, ↓reduceIte, reduceCtorEq, nA, nB, nC, nD, nE, nF, nG, nH, iA, frz_is, *]
                    obtain ⟨y1114, h1115, r1116⟩ := bindS r1108
                    clear r1108
                    try dsimp only at r1116
                    obtain ⟨x1117, h1118, r1119⟩ := bindS r1116
                    clear r1116
                    try dsimp only at r1119
                    have g59 := get_map e_api_Cert h1118
                    refine callx_meets ((certificate_refutes_1__v_ok h1115).le ?_) (by first | (simp (config := {maxSteps := 2000000}) only [go_sem, ↓reduceIte, reduceCtorEq, nA, nB, nC, nD, nE, nF, nG, nH, iA, *] <;> rfl) | rfl) (by simp (config := {maxSteps := 2000000}) only [go_sem, ↓reduceIte, reduceCtorEq, nA, nB, nC, nD, nE, nF, nG, nH, iA, *]) ?_
                    · simp (maxDischargeDepth := 40) only [go_sem, ↓reduceIte, reduceCtorEq, nA, nB, nC, nD, nE, nF, nG, nH, iA, cast0, cast1, lA, lB, lC, lD, lE, mapV_nil, *]
                    simp (config := {maxSteps := 2000000}) only [go_sem, ↓reduceIte, reduceCtorEq, nA, nB, nC, nD, nE, nF, nG, nH, iA, *]
                    obtain ⟨y1121, h1122, r1123⟩ := bindS r1119
                    clear r1119
                    try dsimp only at r1123
                    cases h1124 : y1121 with
                    | true =>
                      simp only [h1124, ↓reduceIte, Bool.false_eq_true] at r1123
                      refine callx_meets ((ih_certificate_refutes h1122).le ?_) (by first | (simp (config := {maxSteps := 2000000}) only [go_sem, ↓reduceIte, reduceCtorEq, nA, nB, nC, nD, nE, nF, nG, nH, iA, *] <;> rfl) | rfl) (by simp (config := {maxSteps := 2000000}) only [go_sem, ↓reduceIte, reduceCtorEq, nA, nB, nC, nD, nE, nF, nG, nH, iA, *]) ?_
                      · simp (maxDischargeDepth := 40) only [go_sem, ↓reduceIte, reduceCtorEq, nA, nB, nC, nD, nE, nF, nG, nH, iA, cast0, cast1, lA, lB, lC, lD, lE, mapV_nil, *]
                      simp (config := {maxSteps := 2000000}) only [go_sem, ↓reduceIte, reduceCtorEq, nA, nB, nC, nD, nE, nF, nG, nH, iA, *]
                      obtain ⟨y1125, h1126, r1127⟩ := bindS r1123
                      clear r1123
                      try dsimp only at r1127
                      obtain ⟨x1128, h1129, r1130⟩ := bindS r1127
                      clear r1127
                      try dsimp only at r1130
                      have g60 := (by decide : (0 : Int) ≤ 1)
                      have g61 := get_map e_api_Cert h1129
                      refine callx_meets ((certificate_refutes_1__v_ok h1126).le ?_) (by first | (simp (config := {maxSteps := 2000000}) only [go_sem, ↓reduceIte, reduceCtorEq, nA, nB, nC, nD, nE, nF, nG, nH, iA, *] <;> rfl) | rfl) (by simp (config := {maxSteps := 2000000}) only [go_sem, ↓reduceIte, reduceCtorEq, nA, nB, nC, nD, nE, nF, nG, nH, iA, *]) ?_
                      · simp (maxDischargeDepth := 40) only [go_sem, ↓reduceIte, reduceCtorEq, nA, nB, nC, nD, nE, nF, nG, nH, iA, cast0, cast1, lA, lB, lC, lD, lE, mapV_nil, *]
                      simp (config := {maxSteps := 2000000}) only [go_sem, ↓reduceIte, reduceCtorEq, nA, nB, nC, nD, nE, nF, nG, nH, iA, *]
                      obtain ⟨y1132, h1133, r1134⟩ := bindS r1130
                      clear r1130
                      try dsimp only at r1134
                      refine callx_meets ((ih_certificate_refutes h1133).le ?_) (by first | (simp (config := {maxSteps := 2000000}) only [go_sem, ↓reduceIte, reduceCtorEq, nA, nB, nC, nD, nE, nF, nG, nH, iA, *] <;> rfl) | rfl) (by simp (config := {maxSteps := 2000000}) only [go_sem, ↓reduceIte, reduceCtorEq, nA, nB, nC, nD, nE, nF, nG, nH, iA, *]) ?_
                      · simp (maxDischargeDepth := 40) only [go_sem, ↓reduceIte, reduceCtorEq, nA, nB, nC, nD, nE, nF, nG, nH, iA, cast0, cast1, lA, lB, lC, lD, lE, mapV_nil, *]
                      simp (config := {maxSteps := 2000000}) only [go_sem, ↓reduceIte, reduceCtorEq, nA, nB, nC, nD, nE, nF, nG, nH, iA, *]
                      repeat refine ⟨by first | omega | (simp only [List.length_append, List.length_cons, List.length_nil, List.length_map, Nat.zero_add] at *; omega), ?_⟩
                      first | refine ⟨by kernel_rfl, ?_⟩ | skip
                      try simp only [go_sem, ↓reduceIte, reduceCtorEq, nA, nB, nC, nD, nE, nF, nG, nH, iA, *]
                      cases r1134
                      simp (maxDischargeDepth := 40) only [go_sem, ↓reduceIte, reduceCtorEq, nA, nB, nC, nD, nE, nF, nG, nH, iA, cast0, cast1, lA, lB, lC, lD, lE, mapV_nil, *]
                    | false =>
                      simp only [h1124, ↓reduceIte, Bool.false_eq_true] at r1123
                      refine callx_meets ((ih_certificate_refutes h1122).le ?_) (by first | (simp (config := {maxSteps := 2000000}) only [go_sem, ↓reduceIte, reduceCtorEq, nA, nB, nC, nD, nE, nF, nG, nH, iA, *] <;> rfl) | rfl) (by simp (config := {maxSteps := 2000000}) only [go_sem, ↓reduceIte, reduceCtorEq, nA, nB, nC, nD, nE, nF, nG, nH, iA, *]) ?_
                      · simp (maxDischargeDepth := 40) only [go_sem, ↓reduceIte, reduceCtorEq, nA, nB, nC, nD, nE, nF, nG, nH, iA, cast0, cast1, lA, lB, lC, lD, lE, mapV_nil, *]
                      simp (config := {maxSteps := 2000000}) only [go_sem, ↓reduceIte, reduceCtorEq, nA, nB, nC, nD, nE, nF, nG, nH, iA, *]
                      repeat refine ⟨by first | omega | (simp only [List.length_append, List.length_cons, List.length_nil, List.length_map, Nat.zero_add] at *; omega), ?_⟩
                      first | refine ⟨by kernel_rfl, ?_⟩ | skip
                      try simp only [go_sem, ↓reduceIte, reduceCtorEq, nA, nB, nC, nD, nE, nF, nG, nH, iA, *]
                      cases r1123
                      simp (maxDischargeDepth := 40) only [go_sem, ↓reduceIte, reduceCtorEq, nA, nB, nC, nD, nE, nF, nG, nH, iA, cast0, cast1, lA, lB, lC, lD, lE, mapV_nil, *]
                  | false =>
                    simp only [h1113, ↓reduceIte, Bool.false_eq_true] at r1108
                    refine drawF_wild [0] ?_
                    simp (config := {maxSteps := 2000000}) only [go_sem, ↓reduceIte, reduceCtorEq, nA, nB, nC, nD, nE, nF, nG, nH, iA, frz_is, *]
                    repeat refine ⟨by first | omega | (simp only [List.length_append, List.length_cons, List.length_nil, List.length_map, Nat.zero_add] at *; omega), ?_⟩
                    first | refine ⟨by kernel_rfl, ?_⟩ | skip
                    try simp only [go_sem, ↓reduceIte, reduceCtorEq, nA, nB, nC, nD, nE, nF, nG, nH, iA, *]
                    cases r1108
                    simp (maxDischargeDepth := 40) only [go_sem, ↓reduceIte, reduceCtorEq, nA, nB, nC, nD, nE, nF, nG, nH, iA, cast0, cast1, lA, lB, lC, lD, lE, mapV_nil, *]
                | false =>
                  simp only [h1105, ↓reduceIte, Bool.false_eq_true] at hr
                  simp only [go_sem, ↓reduceIte, reduceCtorEq, nA, nB, nC, nD, nE, nF, nG, nH, iA, *]
                  cases hr
                  simp (maxDischargeDepth := 40) only [go_sem, ↓reduceIte, reduceCtorEq, nA, nB, nC, nD, nE, nF, nG, nH, iA, cast0, cast1, lA, lB, lC, lD, lE, mapV_nil, *]
            | false =>
              simp only [h1085, ↓reduceIte, Bool.false_eq_true] at hr
              cases h1135 : (((a1.f3.length : Nat) : Int) == (2 : Int)) with
              | true =>
                simp only [h1135, ↓reduceIte, Bool.false_eq_true] at hr
                simp only [go_sem, ↓reduceIte, reduceCtorEq, nA, nB, nC, nD, nE, nF, nG, nH, iA, *]
                obtain ⟨y1136, h1137, r1138⟩ := bindS hr
                clear hr
                try dsimp only at r1138
                refine call_meets ((certificate_Negate_ok h1137).le ?_) (by first | (simp only [go_sem, ↓reduceIte, reduceCtorEq, nA, nB, nC, nD, nE, nF, nG, nH, iA, *] <;> rfl) | rfl) ?_
                · simp (maxDischargeDepth := 40) only [go_sem, ↓reduceIte, reduceCtorEq, nA, nB, nC, nD, nE, nF, nG, nH, iA, cast0, cast1, lA, lB, lC, lD, lE, mapV_nil, *]
                simp only [go_sem, ↓reduceIte, reduceCtorEq, nA, nB, nC, nD, nE, nF, nG, nH, iA, *]
                cases h1143 : (y1136.2 == (0 : Int)) with
                | true =>
                  simp only [h1143, ↓reduceIte, Bool.false_eq_true] at r1138
                  refine drawF_wild [0] ?_
                  simp (config := {maxSteps := 2000000}) only [go_sem, ↓reduceIte, reduceCtorEq, nA, nB, nC, nD, nE, nF, nG, nH, iA, frz_is, *]
                  obtain ⟨y1144, h1145, r1146⟩ := bindS r1138
                  clear r1138
                  try dsimp only at r1146
                  obtain ⟨x1147, h1148, r1149⟩ := bindS r1146
                  clear r1146
                  try dsimp only at r1149
                  have g62 := get_map e_api_Cert h1148
                  refine callx_meets ((certificate_refutes_1__v_ok h1145).le ?_) (by first | (simp (config := {maxSteps := 2000000}) only [go_sem, ↓reduceIte, reduceCtorEq, nA, nB, nC, nD, nE, nF, nG, nH, iA, *] <;> rfl) | rfl) (by simp (config := {maxSteps := 2000000}) only [go_sem, ↓reduceIte, reduceCtorEq, nA, nB, nC, nD, nE, nF, nG, nH, iA, *]) ?_
                  · simp (maxDischargeDepth := 40) only [go_sem, ↓reduceIte, reduceCtorEq, nA, nB, nC, nD, nE, nF, nG, nH, iA, cast0, cast1, lA, lB, lC, lD, lE, mapV_nil, *]
                  simp (config := {maxSteps := 2000000}) only [go_sem, ↓reduceIte, reduceCtorEq, nA, nB, nC, nD, nE, nF, nG, nH, iA, *]
                  obtain ⟨y1151, h1152, r1153⟩ := bindS r1149
                  clear r1149
                  try dsimp only at r1153
                  cases h1154 : y1151 with
                  | true =>
                    simp only [h1154, ↓reduceIte, Bool.false_eq_true] at r1153
                    refine callx_meets ((ih_certificate_refutes h1152).le ?_) (by first | (simp (config := {maxSteps := 2000000}) only [go_sem, ↓reduceIte, reduceCtorEq, nA, nB, nC, nD, nE, nF, nG, nH, iA, *] <;> rfl) | rfl) (by simp (config := {maxSteps := 2000000}) only [go_sem, ↓reduceIte, reduceCtorEq, nA, nB, nC, nD, nE, nF, nG, nH, iA, *]) ?_
                    · simp (maxDischargeDepth := 40) only [go_sem, ↓reduceIte, reduceCtorEq, nA, nB, nC, nD, nE, nF, nG, nH, iA, cast0, cast1, lA, lB, lC, lD, lE, mapV_nil, *]
                    simp (config := {maxSteps := 2000000}) only [go_sem, ↓reduceIte, reduceCtorEq, nA, nB, nC, nD, nE, nF, nG, nH, iA, *]
                    obtain ⟨y1155, h1156, r1157⟩ := bindS r1153
                    clear r1153
                    try dsimp only at r1157
                    obtain ⟨x1158, h1159, r1160⟩ := bindS r1157
                    clear r1157
                    try dsimp only at r1160
                    have g63 := (by decide : (0 : Int) ≤ 1)
                    have g64 := get_map e_api_Cert h1159
                    refine callx_meets ((certificate_refutes_1__v_ok h1156).le ?_) (by first | (simp (config := {maxSteps := 2000000}) only [go_sem, ↓reduceIte, reduceCtorEq, nA, nB, nC, nD, nE, nF, nG, nH, iA, *] <;> rfl) | rfl) (by simp (config := {maxSteps := 2000000}) only [go_sem, ↓reduceIte, reduceCtorEq, nA, nB, nC, nD, nE, nF, nG, nH, iA, *]) ?_
                    · simp (maxDischargeDepth := 40) only [go_sem, ↓reduceIte, reduceCtorEq, nA, nB, nC, nD, nE, nF, nG, nH, iA, cast0, cast1, lA, lB, lC, lD, lE, mapV_nil, *]
                    simp (config := {maxSteps := 2000000}) only [go_sem, ↓reduceIte, reduceCtorEq, nA, nB, nC, nD, nE, nF, nG, nH, iA, *]
                    obtain ⟨y1162, h1163, r1164⟩ := bindS r1160
                    clear r1160
                    try dsimp only at r1164
                    refine callx_meets ((ih_certificate_refutes h1163).le ?_) (by first | (simp (config := {maxSteps := 2000000}) only [go_sem, ↓reduceIte, reduceCtorEq, nA, nB, nC, nD, nE, nF, nG, nH, iA, *] <;> rfl) | rfl) (by simp (config := {maxSteps := 2000000}) only [go_sem, ↓reduceIte, reduceCtorEq, nA, nB, nC, nD, nE, nF, nG, nH, iA, *]) ?_
                    · simp (maxDischargeDepth := 40) only [go_sem, ↓reduceIte, reduceCtorEq, nA, nB, nC, nD, nE, nF, nG, nH, iA, cast0, cast1, lA, lB, lC, lD, lE, mapV_nil, *]
                    simp (config := {maxSteps := 2000000}) only [go_sem, ↓reduceIte, reduceCtorEq, nA, nB, nC, nD, nE, nF, nG, nH, iA, *]
                    repeat refine ⟨by first | omega | (simp only [List.length_append, List.length_cons, List.length_nil, List.length_map, Nat.zero_add] at *; omega), ?_⟩
                    first | refine ⟨by kernel_rfl, ?_⟩ | skip
                    try simp only [go_sem, ↓reduceIte, reduceCtorEq, nA, nB, nC, nD, nE, nF, nG, nH, iA, *]
                    cases r1164
                    simp (maxDischargeDepth := 40) only [go_sem, ↓reduceIte, reduceCtorEq, nA, nB, nC, nD, nE, nF, nG, nH, iA, cast0, cast1, lA, lB, lC, lD, lE, mapV_nil, *]
                  | false =>
                    simp only [h1154, ↓reduceIte, Bool.false_eq_true] at r1153
                    refine callx_meets ((ih_certificate_refutes h1152).le ?_) (by first | (simp (config := {maxSteps := 2000000}) only [go_sem, ↓reduceIte, reduceCtorEq, nA, nB, nC, nD, nE, nF, nG, nH, iA, *] <;> rfl) | rfl) (by simp (config := {maxSteps := 2000000}) only [go_sem, ↓reduceIte, reduceCtorEq, nA, nB, nC, nD, nE, nF, nG, nH, iA, *]) ?_
                    · simp (maxDischargeDepth := 40) only [go_sem, ↓reduceIte, reduceCtorEq, nA, nB, nC, nD, nE, nF, nG, nH, iA, cast0, cast1, lA, lB, lC, lD, lE, mapV_nil, *]
                    simp (config := {maxSteps := 2000000}) only [go_sem, ↓reduceIte, reduceCtorEq, nA, nB, nC, nD, nE, nF, nG, nH, iA, *]
                    repeat refine ⟨by first | omega | (simp only [List.length_append, List.length_cons, List.length_nil, List.length_map, Nat.zero_add] at *; omega), ?_⟩
                    first | refine ⟨by kernel_rfl, ?_⟩ | skip
                    try simp only [go_sem, ↓reduceIte, reduceCtorEq, nA, nB, nC, nD, nE, nF, nG, nH, iA, *]
                    cases r1153
                    simp (maxDischargeDepth := 40) only [go_sem, ↓reduceIte, reduceCtorEq, nA, nB, nC, nD, nE, nF, nG, nH, iA, cast0, cast1, lA, lB, lC, lD, lE, mapV_nil, *]
                | false =>
                  simp only [h1143, ↓reduceIte, Bool.false_eq_true] at r1138
                  refine drawF_wild [0] ?_
                  simp (config := {maxSteps := 2000000}) only [go_sem, ↓reduceIte, reduceCtorEq, nA, nB, nC, nD, nE, nF, nG, nH, iA, frz_is, *]
                  repeat refine ⟨by first | omega | (simp only [List.length_append, List.length_cons, List.length_nil, List.length_map, Nat.zero_add] at *; omega), ?_⟩
                  first | refine ⟨by kernel_rfl, ?_⟩ | skip
                  try simp only [go_sem, ↓reduceIte, reduceCtorEq, nA, nB, nC, nD, nE, nF, nG, nH, iA, *]
                  cases r1138
                  simp (maxDischargeDepth := 40) only [go_sem, ↓reduceIte, reduceCtorEq, nA, nB, nC, nD, nE, nF, nG, nH, iA, cast0, cast1, lA, lB, lC, lD, lE, mapV_nil, *]
              | false =>
                simp only [h1135, ↓reduceIte, Bool.false_eq_true] at hr
                simp only [go_sem, ↓reduceIte, reduceCtorEq, nA, nB, nC, nD, nE, nF, nG, nH, iA, *]
                cases hr
                simp (maxDischargeDepth := 40) only [go_sem, ↓reduceIte, reduceCtorEq, nA, nB, nC, nD, nE, nF, nG, nH, iA, cast0, cast1, lA, lB, lC, lD, lE, mapV_nil, *]
      | false =>
        simp only [h879, ↓reduceIte, Bool.false_eq_true] at hr
        simp only [go_sem, ↓reduceIte, reduceCtorEq, nA, nB, nC, nD, nE, nF, nG, nH, iA, *]
        obtain ⟨y1212, h1213, r1214⟩ := bindS hr
        clear hr
        try dsimp only at r1214
        cases h1215 : y1212 with
        | true =>
          simp only [h1215, ↓reduceIte, Bool.false_eq_true] at r1214
          cases h1216 : (a1.f0 == (1 : Int)) with
          | true =>
            simp only [h1216, ↓reduceIte, Bool.false_eq_true] at r1214
            cases h1217 : (((a1.f3.length : Nat) : Int) == (0 : Int)) with
            | true =>
              simp only [h1217, ↓reduceIte, Bool.false_eq_true] at r1214
              refine call_meets ((linear_Equal_ok h1213).le ?_) (by first | (simp only [go_sem, ↓reduceIte, reduceCtorEq, nA, nB, nC, nD, nE, nF, nG, nH, iA, *] <;> rfl) | rfl) ?_
              · simp (maxDischargeDepth := 40) only [go_sem, ↓reduceIte, reduceCtorEq, nA, nB, nC, nD, nE, nF, nG, nH, iA, cast0, cast1, lA, lB, lC, lD, lE, mapV_nil, *]
              simp only [go_sem, ↓reduceIte, reduceCtorEq, nA, nB, nC, nD, nE, nF, nG, nH, iA, *]
              obtain ⟨y1218, h1219, r1220⟩ := bindS r1214
              clear r1214
              try dsimp only at r1220
              cases h1221 : (y1218.2.2 == (0 : Int)) with
              | true =>
                simp only [h1221, ↓reduceIte, Bool.false_eq_true] at r1220
                cases h1222 : (((y1218.1.length : Nat) : Int) == (0 : Int)) with
                | true =>
                  simp only [h1222, ↓reduceIte, Bool.false_eq_true] at r1220
                  refine call_meets ((certificate_combine_ok h1219).le ?_) (by first | (simp only [go_sem, ↓reduceIte, reduceCtorEq, nA, nB, nC, nD, nE, nF, nG, nH, iA, *] <;> rfl) | rfl) ?_
                  · simp (maxDischargeDepth := 40) only [go_sem, ↓reduceIte, reduceCtorEq, nA, nB, nC, nD, nE, nF, nG, nH, iA, cast0, cast1, lA, lB, lC, lD, lE, mapV_nil, *]
                  simp only [go_sem, ↓reduceIte, reduceCtorEq, nA, nB, nC, nD, nE, nF, nG, nH, iA, *]
                  cases r1220
                  simp (maxDischargeDepth := 40) only [go_sem, ↓reduceIte, reduceCtorEq, nA, nB, nC, nD, nE, nF, nG, nH, iA, cast0, cast1, lA, lB, lC, lD, lE, mapV_nil, *]
                | false =>
                  simp only [h1222, ↓reduceIte, Bool.false_eq_true] at r1220
                  refine call_meets ((certificate_combine_ok h1219).le ?_) (by first | (simp only [go_sem, ↓reduceIte, reduceCtorEq, nA, nB, nC, nD, nE, nF, nG, nH, iA, *] <;> rfl) | rfl) ?_
                  · simp (maxDischargeDepth := 40) only [go_sem, ↓reduceIte, reduceCtorEq, nA, nB, nC, nD, nE, nF, nG, nH, iA, cast0, cast1, lA, lB, lC, lD, lE, mapV_nil, *]
                  simp only [go_sem, ↓reduceIte, reduceCtorEq, nA, nB, nC, nD, nE, nF, nG, nH, iA, *]
                  cases r1220
                  simp (maxDischargeDepth := 40) only [go_sem, ↓reduceIte, reduceCtorEq, nA, nB, nC, nD, nE, nF, nG, nH, iA, cast0, cast1, lA, lB, lC, lD, lE, mapV_nil, *]
              | false =>
                simp only [h1221, ↓reduceIte, Bool.false_eq_true] at r1220
                refine call_meets ((certificate_combine_ok h1219).le ?_) (by first | (simp only [go_sem, ↓reduceIte, reduceCtorEq, nA, nB, nC, nD, nE, nF, nG, nH, iA, *] <;> rfl) | rfl) ?_
                · simp (maxDischargeDepth := 40) only [go_sem, ↓reduceIte, reduceCtorEq, nA, nB, nC, nD, nE, nF, nG, nH, iA, cast0, cast1, lA, lB, lC, lD, lE, mapV_nil, *]
                simp only [go_sem, ↓reduceIte, reduceCtorEq, nA, nB, nC, nD, nE, nF, nG, nH, iA, *]
                cases r1220
                simp (maxDischargeDepth := 40) only [go_sem, ↓reduceIte, reduceCtorEq, nA, nB, nC, nD, nE, nF, nG, nH, iA, cast0, cast1, lA, lB, lC, lD, lE, mapV_nil, *]
            | false =>
              simp only [h1217, ↓reduceIte, Bool.false_eq_true] at r1214
              cases h1223 : (a1.f0 == (2 : Int)) with
              | true =>
                simp only [h1223, ↓reduceIte, Bool.false_eq_true] at r1214
                cases h1224 : (((a1.f3.length : Nat) : Int) == (1 : Int)) with
                | true =>
                  simp only [h1224, ↓reduceIte, Bool.false_eq_true] at r1214
                  refine call_meets ((linear_Equal_ok h1213).le ?_) (by first | (simp only [go_sem, ↓reduceIte, reduceCtorEq, nA, nB, nC, nD, nE, nF, nG, nH, iA, *] <;> rfl) | rfl) ?_
                  · simp (maxDischargeDepth := 40) only [go_sem, ↓reduceIte, reduceCtorEq, nA, nB, nC, nD, nE, nF, nG, nH, iA, cast0, cast1, lA, lB, lC, lD, lE, mapV_nil, *]
                  simp only [go_sem, ↓reduceIte, reduceCtorEq, nA, nB, nC, nD, nE, nF, nG, nH, iA, *]
                  obtain ⟨y1225, h1226, r1227⟩ := bindS r1214
                  clear r1214
                  try dsimp only at r1227
                  refine call_meets ((certificate_cut_ok h1226).le ?_) (by first | (simp only [go_sem, ↓reduceIte, reduceCtorEq, nA, nB, nC, nD, nE, nF, nG, nH, iA, *] <;> rfl) | rfl) ?_
                  · simp (maxDischargeDepth := 40) only [go_sem, ↓reduceIte, reduceCtorEq, nA, nB, nC, nD, nE, nF, nG, nH, iA, cast0, cast1, lA, lB, lC, lD, lE, mapV_nil, *]
                  simp only [go_sem, ↓reduceIte, reduceCtorEq, nA, nB, nC, nD, nE, nF, nG, nH, iA, *]
                  cases h1232 : (y1225.2 == (0 : Int)) with
                  | true =>
                    simp only [h1232, ↓reduceIte, Bool.false_eq_true] at r1227
                    refine drawF_wild [0] ?_
                    simp (config := {maxSteps := 2000000}) only [go_sem, ↓reduceIte, reduceCtorEq, nA, nB, nC, nD, nE, nF, nG, nH, iA, frz_is, *]
                    obtain ⟨y1233, h1234, r1235⟩ := bindS r1227
                    clear r1227
                    try dsimp only at r1235
                    obtain ⟨x1236, h1237, r1238⟩ := bindS r1235
                    clear r1235
                    try dsimp only at r1238
                    have g65 := get_map e_api_Cert h1237
                    refine callx_meets ((certificate_refutes_1__v_ok h1234).le ?_) (by first | (simp (config := {maxSteps := 2000000}) only [go_sem, ↓reduceIte, reduceCtorEq, nA, nB, nC, nD, nE, nF, nG, nH, iA, *] <;> rfl) | rfl) (by simp (config := {maxSteps := 2000000}) only [go_sem, ↓reduceIte, reduceCtorEq, nA, nB, nC, nD, nE, nF, nG, nH, iA, *]) ?_
                    · simp (maxDischargeDepth := 40) only [go_sem, ↓reduceIte, reduceCtorEq, nA, nB, nC, nD, nE, nF, nG, nH, iA, cast0, cast1, lA, lB, lC, lD, lE, mapV_nil, *]
                    simp (config := {maxSteps := 2000000}) only [go_sem, ↓reduceIte, reduceCtorEq, nA, nB, nC, nD, nE, nF, nG, nH, iA, *]
                    obtain ⟨y1240, h1241, r1242⟩ := bindS r1238
                    clear r1238
                    try dsimp only at r1242
                    refine callx_meets ((ih_certificate_refutes h1241).le ?_) (by first | (simp (config := {maxSteps := 2000000}) only [go_sem, ↓reduceIte, reduceCtorEq, nA, nB, nC, nD, nE, nF, nG, nH, iA, *] <;> rfl) | rfl) (by simp (config := {maxSteps := 2000000}) only [go_sem, ↓reduceIte, reduceCtorEq, nA, nB, nC, nD, nE, nF, nG, nH, iA, *]) ?_
                    · simp (maxDischargeDepth := 40) only [go_sem, ↓reduceIte, reduceCtorEq, nA, nB, nC, nD, nE, nF, nG, nH, iA, cast0, cast1, lA, lB, lC, lD, lE, mapV_nil, *]
                    simp (config := {maxSteps := 2000000}) only [go_sem, ↓reduceIte, reduceCtorEq, nA, nB, nC, nD, nE, nF, nG, nH, iA, *]
                    repeat refine ⟨by first | omega | (simp only [List.length_append, List.length_cons, List.length_nil, List.length_map, Nat.zero_add] at *; omega), ?_⟩
                    first | refine ⟨by kernel_rfl, ?_⟩ | skip
                    try simp only [go_sem, ↓reduceIte, reduceCtorEq, nA, nB, nC, nD, nE, nF, nG, nH, iA, *]
                    cases r1242
                    simp (maxDischargeDepth := 40) only [go_sem, ↓reduceIte, reduceCtorEq, nA, nB, nC, nD, nE, nF, nG, nH, iA, cast0, cast1, lA, lB, lC, lD, lE, mapV_nil, *]
                  | false =>
                    simp only [h1232, ↓reduceIte, Bool.false_eq_true] at r1227
                    refine drawF_wild [0] ?_
                    simp (config := {maxSteps := 2000000}) only [go_sem, ↓reduceIte, reduceCtorEq, nA, nB, nC, nD, nE, nF, nG, nH, iA, frz_is, *]
                    repeat refine ⟨by first | omega | (simp only [List.length_append, List.length_cons, List.length_nil, List.length_map, Nat.zero_add] at *; omega), ?_⟩
                    first | refine ⟨by kernel_rfl, ?_⟩ | skip
                    try simp only [go_sem, ↓reduceIte, reduceCtorEq, nA, nB, nC, nD, nE, nF, nG, nH, iA, *]
                    cases r1227
                    simp (maxDischargeDepth := 40) only [go_sem, ↓reduceIte, reduceCtorEq, nA, nB, nC, nD, nE, nF, nG, nH, iA, cast0, cast1, lA, lB, lC, lD, lE, mapV_nil, *]
                | false =>
                  simp only [h1224, ↓reduceIte, Bool.false_eq_true] at r1214
                  refine call_meets ((linear_Equal_ok h1213).le ?_) (by first | (simp only [go_sem, ↓reduceIte, reduceCtorEq, nA, nB, nC, nD, nE, nF, nG, nH, iA, *] <;> rfl) | rfl) ?_
                  · simp (maxDischargeDepth := 40) only [go_sem, ↓reduceIte, reduceCtorEq, nA, nB, nC, nD, nE, nF, nG, nH, iA, cast0, cast1, lA, lB, lC, lD, lE, mapV_nil, *]
                  simp only [go_sem, ↓reduceIte, reduceCtorEq, nA, nB, nC, nD, nE, nF, nG, nH, iA, *]
                  cases r1214
                  simp (maxDischargeDepth := 40) only [go_sem, ↓reduceIte, reduceCtorEq, nA, nB, nC, nD, nE, nF, nG, nH, iA, cast0, cast1, lA, lB, lC, lD, lE, mapV_nil, *]
              | false =>
                simp only [h1223, ↓reduceIte, Bool.false_eq_true] at r1214
                refine call_meets ((linear_Equal_ok h1213).le ?_) (by first | (simp only [go_sem, ↓reduceIte, reduceCtorEq, nA, nB, nC, nD, nE, nF, nG, nH, iA, *] <;> rfl) | rfl) ?_
                · simp (maxDischargeDepth := 40) only [go_sem, ↓reduceIte, reduceCtorEq, nA, nB, nC, nD, nE, nF, nG, nH, iA, cast0, cast1, lA, lB, lC, lD, lE, mapV_nil, *]
                simp only [go_sem, ↓reduceIte, reduceCtorEq, nA, nB, nC, nD, nE, nF, nG, nH, iA, *]
                cases r1214
                simp (maxDischargeDepth := 40) only [go_sem, ↓reduceIte, reduceCtorEq, nA, nB, nC, nD, nE, nF, nG, nH, iA, cast0, cast1, lA, lB, lC, lD, lE, mapV_nil, *]
          | false =>
            simp only [h1216, ↓reduceIte, Bool.false_eq_true] at r1214
            cases h1243 : (a1.f0 == (2 : Int)) with
            | true =>
              simp only [h1243, ↓reduceIte, Bool.false_eq_true] at r1214
              cases h1244 : (((a1.f3.length : Nat) : Int) == (1 : Int)) with
              | true =>
                simp only [h1244, ↓reduceIte, Bool.false_eq_true] at r1214
                refine call_meets ((linear_Equal_ok h1213).le ?_) (by first | (simp only [go_sem, ↓reduceIte, reduceCtorEq, nA, nB, nC, nD, nE, nF, nG, nH, iA, *] <;> rfl) | rfl) ?_
                · simp (maxDischargeDepth := 40) only [go_sem, ↓reduceIte, reduceCtorEq, nA, nB, nC, nD, nE, nF, nG, nH, iA, cast0, cast1, lA, lB, lC, lD, lE, mapV_nil, *]
                simp only [go_sem, ↓reduceIte, reduceCtorEq, nA, nB, nC, nD, nE, nF, nG, nH, iA, *]
                obtain ⟨y1245, h1246, r1247⟩ := bindS r1214
                clear r1214
                try dsimp only at r1247
                refine call_meets ((certificate_cut_ok h1246).le ?_) (by first | (simp only [go_sem, ↓reduceIte, reduceCtorEq, nA, nB, nC, nD, nE, nF, nG, nH, iA, *] <;> rfl) | rfl) ?_
                · simp (maxDischargeDepth := 40) only [go_sem, ↓reduceIte, reduceCtorEq, nA, nB, nC, nD, nE, nF, nG, nH, iA, cast0, cast1, lA, lB, lC, lD, lE, mapV_nil, *]
                simp only [go_sem, ↓reduceIte, reduceCtorEq, nA, nB, nC, nD, nE, nF, nG, nH, iA, *]
                cases h1252 : (y1245.2 == (0 : Int)) with
                | true =>
                  simp only [h1252, ↓reduceIte, Bool.false_eq_true] at r1247
                  refine drawF_wild [0] ?_
                  simp (config := {maxSteps := 2000000}) only [go_sem, ↓reduceIte, reduceCtorEq, nA, nB, nC, nD, nE, nF, nG, nH, iA, frz_is, *]
                  obtain ⟨y1253, h1254, r1255⟩ := bindS r1247
                  clear r1247
                  try dsimp only at r1255
                  obtain ⟨x1256, h1257, r1258⟩ := bindS r1255
                  clear r1255
                  try dsimp only at r1258
                  have g66 := get_map e_api_Cert h1257
                  refine callx_meets ((certificate_refutes_1__v_ok h1254).le ?_) (by first | (simp (config := {maxSteps := 2000000}) only [go_sem, ↓reduceIte, reduceCtorEq, nA, nB, nC, nD, nE, nF, nG, nH, iA, *] <;> rfl) | rfl) (by simp (config := {maxSteps := 2000000}) only [go_sem, ↓reduceIte, reduceCtorEq, nA, nB, nC, nD, nE, nF, nG, nH, iA, *]) ?_
                  · simp (maxDischargeDepth := 40) only [go_sem, ↓reduceIte, reduceCtorEq, nA, nB, nC, nD, nE, nF, nG, nH, iA, cast0, cast1, lA, lB, lC, lD, lE, mapV_nil, *]
                  simp (config := {maxSteps := 2000000}) only [go_sem, ↓reduceIte, reduceCtorEq, nA, nB, nC, nD, nE, nF, nG, nH, iA, *]
                  obtain ⟨y1260, h1261, r1262⟩ := bindS r1258
                  clear r1258
                  try dsimp only at r1262
                  refine callx_meets ((ih_certificate_refutes h1261).le ?_) (by first | (simp (config := {maxSteps := 2000000}) only [go_sem, ↓reduceIte, reduceCtorEq, nA, nB, nC, nD, nE, nF, nG, nH, iA, *] <;> rfl) | rfl) (by simp (config := {maxSteps := 2000000}) only [go_sem, ↓reduceIte, reduceCtorEq, nA, nB, nC, nD, nE, nF, nG, nH, iA, *]) ?_
                  · simp (maxDischargeDepth := 40) only [go_sem, ↓reduceIte, reduceCtorEq, nA, nB, nC, nD, nE, nF, nG, nH, iA, cast0, cast1, lA, lB, lC, lD, lE, mapV_nil, *]
                  simp (config := {maxSteps := 2000000}) only [go_sem, ↓reduceIte, reduceCtorEq, nA, nB, nC, nD, nE, nF, nG, nH, iA, *]
                  repeat refine ⟨by first | omega | (simp only [List.length_append, List.length_cons, List.length_nil, List.length_map, Nat.zero_add] at *; omega), ?_⟩
                  first | refine ⟨by kernel_rfl, ?_⟩ | skip
                  try simp only [go_sem, ↓reduceIte, reduceCtorEq, nA, nB, nC, nD, nE, nF, nG, nH, iA, *]
                  cases r1262
                  simp (maxDischargeDepth := 40) only [go_sem, ↓reduceIte, reduceCtorEq, nA, nB, nC, nD, nE, nF, nG, nH, iA, cast0, cast1, lA, lB, lC, lD, lE, mapV_nil, *]
                | false =>
                  simp only [h1252, ↓reduceIte, Bool.false_eq_true] at r1247
                  refine drawF_wild [0] ?_
                  simp (config := {maxSteps := 2000000}) only [go_sem, ↓reduceIte, reduceCtorEq, nA, nB, nC, nD, nE, nF, nG, nH, iA, frz_is, *]
                  repeat refine ⟨by first | omega | (simp only [List.length_append, List.length_cons, List.length_nil, List.length_map, Nat.zero_add] at *; omega), ?_⟩
                  first | refine ⟨by kernel_rfl, ?_⟩ | skip
                  try simp only [go_sem, ↓reduceIte, reduceCtorEq, nA, nB, nC, nD, nE, nF, nG, nH, iA, *]
                  cases r1247
                  simp (maxDischargeDepth := 40) only [go_sem, ↓reduceIte, reduceCtorEq, nA, nB, nC, nD, nE, nF, nG, nH, iA, cast0, cast1, lA, lB, lC, lD, lE, mapV_nil, *]
              | false =>
                simp only [h1244, ↓reduceIte, Bool.false_eq_true] at r1214
                refine call_meets ((linear_Equal_ok h1213).le ?_) (by first | (simp only [go_sem, ↓reduceIte, reduceCtorEq, nA, nB, nC, nD, nE, nF, nG, nH, iA, *] <;> rfl) | rfl) ?_
                · simp (maxDischargeDepth := 40) only [go_sem, ↓reduceIte, reduceCtorEq, nA, nB, nC, nD, nE, nF, nG, nH, iA, cast0, cast1, lA, lB, lC, lD, lE, mapV_nil, *]
                simp only [go_sem, ↓reduceIte, reduceCtorEq, nA, nB, nC, nD, nE, nF, nG, nH, iA, *]
                cases r1214
                simp (maxDischargeDepth := 40) only [go_sem, ↓reduceIte, reduceCtorEq, nA, nB, nC, nD, nE, nF, nG, nH, iA, cast0, cast1, lA, lB, lC, lD, lE, mapV_nil, *]
            | false =>
              simp only [h1243, ↓reduceIte, Bool.false_eq_true] at r1214
              refine call_meets ((linear_Equal_ok h1213).le ?_) (by first | (simp only [go_sem, ↓reduceIte, reduceCtorEq, nA, nB, nC, nD, nE, nF, nG, nH, iA, *] <;> rfl) | rfl) ?_
              · simp (maxDischargeDepth := 40) only [go_sem, ↓reduceIte, reduceCtorEq, nA, nB, nC, nD, nE, nF, nG, nH, iA, cast0, cast1, lA, lB, lC, lD, lE, mapV_nil, *]
              simp only [go_sem, ↓reduceIte, reduceCtorEq, nA, nB, nC, nD, nE, nF, nG, nH, iA, *]
              cases r1214
              simp (maxDischargeDepth := 40) only [go_sem, ↓reduceIte, reduceCtorEq, nA, nB, nC, nD, nE, nF, nG, nH, iA, cast0, cast1, lA, lB, lC, lD, lE, mapV_nil, *]
        | false =>
          simp only [h1215, ↓reduceIte, Bool.false_eq_true] at r1214
          refine call_meets ((linear_Equal_ok h1213).le ?_) (by first | (simp only [go_sem, ↓reduceIte, reduceCtorEq, nA, nB, nC, nD, nE, nF, nG, nH, iA, *] <;> rfl) | rfl) ?_
          · simp (maxDischargeDepth := 40) only [go_sem, ↓reduceIte, reduceCtorEq, nA, nB, nC, nD, nE, nF, nG, nH, iA, cast0, cast1, lA, lB, lC, lD, lE, mapV_nil, *]
          simp only [go_sem, ↓reduceIte, reduceCtorEq, nA, nB, nC, nD, nE, nF, nG, nH, iA, *]
          cases r1214
          simp (maxDischargeDepth := 40) only [go_sem, ↓reduceIte, reduceCtorEq, nA, nB, nC, nD, nE, nF, nG, nH, iA, cast0, cast1, lA, lB, lC, lD, lE, mapV_nil, *]
theorem certificate_refutes_ok {fuel : Nat} : ∀ {a0 : List (Bool × (Int × (List (ByteArray × Int))))} {a1 : T_api_Cert} {r : Bool}, certificate_refutes fuel a0 a1 = some r → Meets Try.prog 41 [.sl false 3 (a0.map e_api_Fact), .agg [.c (.int .i64 a1.f0), .sl false 1 (a1.f1.map e_int), .c (.int .i64 a1.f2.1), .sl false 2 (a1.f2.2.map e_api_Coef), .sl false 5 (a1.f3.map e_api_Cert)]] (.c (.bool r)) := certificate_refutes_all fuel

def certificate_Check (a0 : List (Bool × (Int × (List (ByteArray × Int))))) (a1 : T_api_Cert) : Option Int :=
  (certificate_Valid a0).bind fun y257 =>
if y257 then
  if (decide ((100 : Int) < ((a0.length : Nat) : Int))) then
    some (3 : Int)
  else
    (certificate_count 4611686018427387904 a1 (1000 : Int)).bind fun y305 =>
    if (decide ((1000 : Int) < y305)) then
      some (3 : Int)
    else
      (certificate_refutes 4611686018427387904 a0 a1).bind fun y1263 =>
      if y1263 then
        some (0 : Int)
      else
        some (18 : Int)
else
  some (1 : Int)
set_option maxHeartbeats 2000000 in
theorem certificate_Check_ok {a0 : List (Bool × (Int × (List (ByteArray × Int))))} {a1 : T_api_Cert} {r : Int} (hr : certificate_Check a0 a1 = some r) : Meets Try.prog 13 [.sl false 3 (a0.map e_api_Fact), .agg [.c (.int .i64 a1.f0), .sl false 1 (a1.f1.map e_int), .c (.int .i64 a1.f2.1), .sl false 2 (a1.f2.2.map e_api_Coef), .sl false 5 (a1.f3.map e_api_Cert)]] (.c (.int .i64 r)) := by
  unfold certificate_Check at hr
  refine meetsV_of (X := true) Ty.mixed Try.func13 (by kernel_rfl) rfl (by kernel_rfl) (by simp) ?_; rw [Try.ntmps13, Try.results13]
  simp only [go_sem, ↓reduceIte, reduceCtorEq, nA, nB, nC, nD, nE, nF, nG, nH, iA, *]
  obtain ⟨y257, h258, r259⟩ := bindS hr
  clear hr
  try dsimp only at r259
  cases h260 : y257 with
  | true =>
    simp only [h260, ↓reduceIte, Bool.false_eq_true] at r259
    cases h261 : (decide ((100 : Int) < ((a0.length : Nat) : Int))) with
    | true =>
      simp only [h261, ↓reduceIte, Bool.false_eq_true] at r259
      refine call_meets ((certificate_Valid_ok h258).le ?_) (by first | (simp only [go_sem, ↓reduceIte, reduceCtorEq, nA, nB, nC, nD, nE, nF, nG, nH, iA, *] <;> rfl) | rfl) ?_
      · simp (maxDischargeDepth := 40) only [go_sem, ↓reduceIte, reduceCtorEq, nA, nB, nC, nD, nE, nF, nG, nH, iA, cast0, cast1, lA, lB, lC, lD, lE, mapV_nil, *]
      simp only [go_sem, ↓reduceIte, reduceCtorEq, nA, nB, nC, nD, nE, nF, nG, nH, iA, *]
      cases r259
      simp (maxDischargeDepth := 40) only [go_sem, ↓reduceIte, reduceCtorEq, nA, nB, nC, nD, nE, nF, nG, nH, iA, cast0, cast1, lA, lB, lC, lD, lE, mapV_nil, *]
    | false =>
      simp only [h261, ↓reduceIte, Bool.false_eq_true] at r259
      refine call_meets ((certificate_Valid_ok h258).le ?_) (by first | (simp only [go_sem, ↓reduceIte, reduceCtorEq, nA, nB, nC, nD, nE, nF, nG, nH, iA, *] <;> rfl) | rfl) ?_
      · simp (maxDischargeDepth := 40) only [go_sem, ↓reduceIte, reduceCtorEq, nA, nB, nC, nD, nE, nF, nG, nH, iA, cast0, cast1, lA, lB, lC, lD, lE, mapV_nil, *]
      simp only [go_sem, ↓reduceIte, reduceCtorEq, nA, nB, nC, nD, nE, nF, nG, nH, iA, *]
      obtain ⟨y305, h306, r307⟩ := bindS r259
      clear r259
      try dsimp only at r307
      cases h308 : (decide ((1000 : Int) < y305)) with
      | true =>
        simp only [h308, ↓reduceIte, Bool.false_eq_true] at r307
        refine call_meets ((certificate_count_ok h306).le ?_) (by first | (simp only [go_sem, ↓reduceIte, reduceCtorEq, nA, nB, nC, nD, nE, nF, nG, nH, iA, *] <;> rfl) | rfl) ?_
        · simp (maxDischargeDepth := 40) only [go_sem, ↓reduceIte, reduceCtorEq, nA, nB, nC, nD, nE, nF, nG, nH, iA, cast0, cast1, lA, lB, lC, lD, lE, mapV_nil, *]
        simp only [go_sem, ↓reduceIte, reduceCtorEq, nA, nB, nC, nD, nE, nF, nG, nH, iA, *]
        cases r307
        simp (maxDischargeDepth := 40) only [go_sem, ↓reduceIte, reduceCtorEq, nA, nB, nC, nD, nE, nF, nG, nH, iA, cast0, cast1, lA, lB, lC, lD, lE, mapV_nil, *]
      | false =>
        simp only [h308, ↓reduceIte, Bool.false_eq_true] at r307
        refine call_meets ((certificate_count_ok h306).le ?_) (by first | (simp only [go_sem, ↓reduceIte, reduceCtorEq, nA, nB, nC, nD, nE, nF, nG, nH, iA, *] <;> rfl) | rfl) ?_
        · simp (maxDischargeDepth := 40) only [go_sem, ↓reduceIte, reduceCtorEq, nA, nB, nC, nD, nE, nF, nG, nH, iA, cast0, cast1, lA, lB, lC, lD, lE, mapV_nil, *]
        simp only [go_sem, ↓reduceIte, reduceCtorEq, nA, nB, nC, nD, nE, nF, nG, nH, iA, *]
        obtain ⟨y1263, h1264, r1265⟩ := bindS r307
        clear r307
        try dsimp only at r1265
        cases h1266 : y1263 with
        | true =>
          simp only [h1266, ↓reduceIte, Bool.false_eq_true] at r1265
          refine call_meets ((certificate_refutes_ok h1264).le ?_) (by first | (simp only [go_sem, ↓reduceIte, reduceCtorEq, nA, nB, nC, nD, nE, nF, nG, nH, iA, *] <;> rfl) | rfl) ?_
          · simp (maxDischargeDepth := 40) only [go_sem, ↓reduceIte, reduceCtorEq, nA, nB, nC, nD, nE, nF, nG, nH, iA, cast0, cast1, lA, lB, lC, lD, lE, mapV_nil, *]
          simp only [go_sem, ↓reduceIte, reduceCtorEq, nA, nB, nC, nD, nE, nF, nG, nH, iA, *]
          cases r1265
          simp (maxDischargeDepth := 40) only [go_sem, ↓reduceIte, reduceCtorEq, nA, nB, nC, nD, nE, nF, nG, nH, iA, cast0, cast1, lA, lB, lC, lD, lE, mapV_nil, *]
        | false =>
          simp only [h1266, ↓reduceIte, Bool.false_eq_true] at r1265
          refine call_meets ((certificate_refutes_ok h1264).le ?_) (by first | (simp only [go_sem, ↓reduceIte, reduceCtorEq, nA, nB, nC, nD, nE, nF, nG, nH, iA, *] <;> rfl) | rfl) ?_
          · simp (maxDischargeDepth := 40) only [go_sem, ↓reduceIte, reduceCtorEq, nA, nB, nC, nD, nE, nF, nG, nH, iA, cast0, cast1, lA, lB, lC, lD, lE, mapV_nil, *]
          simp only [go_sem, ↓reduceIte, reduceCtorEq, nA, nB, nC, nD, nE, nF, nG, nH, iA, *]
          cases r1265
          simp (maxDischargeDepth := 40) only [go_sem, ↓reduceIte, reduceCtorEq, nA, nB, nC, nD, nE, nF, nG, nH, iA, cast0, cast1, lA, lB, lC, lD, lE, mapV_nil, *]
  | false =>
    simp only [h260, ↓reduceIte, Bool.false_eq_true] at r259
    refine call_meets ((certificate_Valid_ok h258).le ?_) (by first | (simp only [go_sem, ↓reduceIte, reduceCtorEq, nA, nB, nC, nD, nE, nF, nG, nH, iA, *] <;> rfl) | rfl) ?_
    · simp (maxDischargeDepth := 40) only [go_sem, ↓reduceIte, reduceCtorEq, nA, nB, nC, nD, nE, nF, nG, nH, iA, cast0, cast1, lA, lB, lC, lD, lE, mapV_nil, *]
    simp only [go_sem, ↓reduceIte, reduceCtorEq, nA, nB, nC, nD, nE, nF, nG, nH, iA, *]
    cases r259
    simp (maxDischargeDepth := 40) only [go_sem, ↓reduceIte, reduceCtorEq, nA, nB, nC, nD, nE, nF, nG, nH, iA, cast0, cast1, lA, lB, lC, lD, lE, mapV_nil, *]

def certificate_Cut (a0 : List (Bool × (Int × (List (ByteArray × Int))))) (a1 : List Int) : Option ((Int × (List (ByteArray × Int))) × Int) :=
  (certificate_Valid a0).bind fun y1267 =>
if y1267 then
  (certificate_cut a0 a1).bind fun y1271 =>
  some (y1271.1, y1271.2)
else
  some (((0 : Int), []), (1 : Int))
set_option maxHeartbeats 2000000 in
theorem certificate_Cut_ok {a0 : List (Bool × (Int × (List (ByteArray × Int))))} {a1 : List Int} {r : (Int × (List (ByteArray × Int))) × Int} (hr : certificate_Cut a0 a1 = some r) : Meets Try.prog 17 [.sl false 3 (a0.map e_api_Fact), .sl false 1 (a1.map e_int)] (.tup [.agg [.c (.int .i64 r.1.1), .sl false 2 (r.1.2.map e_api_Coef)], .c (.int .i64 r.2)]) := by
  unfold certificate_Cut at hr
  refine meetsV_of (X := true) Ty.mixed Try.func17 (by kernel_rfl) rfl (by kernel_rfl) (by simp) ?_; rw [Try.ntmps17, Try.results17]
  simp only [go_sem, ↓reduceIte, reduceCtorEq, nA, nB, nC, nD, nE, nF, nG, nH, iA, *]
  obtain ⟨y1267, h1268, r1269⟩ := bindS hr
  clear hr
  try dsimp only at r1269
  cases h1270 : y1267 with
  | true =>
    simp only [h1270, ↓reduceIte, Bool.false_eq_true] at r1269
    refine call_meets ((certificate_Valid_ok h1268).le ?_) (by first | (simp only [go_sem, ↓reduceIte, reduceCtorEq, nA, nB, nC, nD, nE, nF, nG, nH, iA, *] <;> rfl) | rfl) ?_
    · simp (maxDischargeDepth := 40) only [go_sem, ↓reduceIte, reduceCtorEq, nA, nB, nC, nD, nE, nF, nG, nH, iA, cast0, cast1, lA, lB, lC, lD, lE, mapV_nil, *]
    simp only [go_sem, ↓reduceIte, reduceCtorEq, nA, nB, nC, nD, nE, nF, nG, nH, iA, *]
    obtain ⟨y1271, h1272, r1273⟩ := bindS r1269
    clear r1269
    try dsimp only at r1273
    refine call_meets ((certificate_cut_ok h1272).le ?_) (by first | (simp only [go_sem, ↓reduceIte, reduceCtorEq, nA, nB, nC, nD, nE, nF, nG, nH, iA, *] <;> rfl) | rfl) ?_
    · simp (maxDischargeDepth := 40) only [go_sem, ↓reduceIte, reduceCtorEq, nA, nB, nC, nD, nE, nF, nG, nH, iA, cast0, cast1, lA, lB, lC, lD, lE, mapV_nil, *]
    simp only [go_sem, ↓reduceIte, reduceCtorEq, nA, nB, nC, nD, nE, nF, nG, nH, iA, *]
    cases r1273
    simp (maxDischargeDepth := 40) only [go_sem, ↓reduceIte, reduceCtorEq, nA, nB, nC, nD, nE, nF, nG, nH, iA, cast0, cast1, lA, lB, lC, lD, lE, mapV_nil, *]
  | false =>
    simp only [h1270, ↓reduceIte, Bool.false_eq_true] at r1269
    refine call_meets ((certificate_Valid_ok h1268).le ?_) (by first | (simp only [go_sem, ↓reduceIte, reduceCtorEq, nA, nB, nC, nD, nE, nF, nG, nH, iA, *] <;> rfl) | rfl) ?_
    · simp (maxDischargeDepth := 40) only [go_sem, ↓reduceIte, reduceCtorEq, nA, nB, nC, nD, nE, nF, nG, nH, iA, cast0, cast1, lA, lB, lC, lD, lE, mapV_nil, *]
    simp only [go_sem, ↓reduceIte, reduceCtorEq, nA, nB, nC, nD, nE, nF, nG, nH, iA, *]
    cases r1269
    simp (maxDischargeDepth := 40) only [go_sem, ↓reduceIte, reduceCtorEq, nA, nB, nC, nD, nE, nF, nG, nH, iA, cast0, cast1, lA, lB, lC, lD, lE, mapV_nil, *]

def linear_Eval_1__v (a0 : ByteArray × Int) (a1 : ByteArray) (a2 : Int) : Option Bool :=
  some (eqB a0.1 a1)
set_option maxHeartbeats 2000000 in
theorem linear_Eval_1__v_ok {a0 : ByteArray × Int} {a1 : ByteArray} {a2 : Int} {r : Bool} (hr : linear_Eval_1__v a0 a1 a2 = some r) : Meets Try.prog 78 [.agg [.c (.string a0.1), .c (.int .i64 a0.2)], .dptr [.c (.string a1), .c (.int .i64 a2)]] (.c (.bool r)) := by
  unfold linear_Eval_1__v at hr
  refine meetsV_of (X := true) Ty.mixed Try.func78 (by kernel_rfl) rfl (by kernel_rfl) (by simp) ?_; rw [Try.ntmps78, Try.results78]
  simp only [go_sem, ↓reduceIte, reduceCtorEq, nA, nB, nC, nD, nE, nF, nG, nH, iA, *]
  cases hr
  simp (maxDischargeDepth := 40) only [go_sem, ↓reduceIte, reduceCtorEq, nA, nB, nC, nD, nE, nF, nG, nH, iA, cast0, cast1, lA, lB, lC, lD, lE, mapV_nil, *]

def slices_IndexFunc_L_api_Value__linear_Eval_1 (a0 : List (ByteArray × Int)) (a1 : ByteArray) (a2 : Int) : Option Int :=
  (forC (R := Int) (a0.length) (() : Unit) fun k1308 s1307 =>
  (a0[k1308]?).bind fun x1316 =>
  (linear_Eval_1__v x1316 a1 a2).bind fun y1320 =>
  if y1320 then
    some (.rt (k1308 : Int))
  else
    some (.nx ())).bind (Sum.elim (fun s1307 =>
  some (-1 : Int)) some)
set_option maxHeartbeats 2000000 in
theorem slices_IndexFunc_L_api_Value__linear_Eval_1_ok {a0 : List (ByteArray × Int)} {a1 : ByteArray} {a2 : Int} {r : Int} (hr : slices_IndexFunc_L_api_Value__linear_Eval_1 a0 a1 a2 = some r) : Meets Try.prog 77 [.sl false 2 (a0.map e_api_Value), .fn 78 [.dptr [.c (.string a1), .c (.int .i64 a2)]]] (.c (.int .i64 r)) := by
  unfold slices_IndexFunc_L_api_Value__linear_Eval_1 at hr
  refine meetsV_of (X := true) Ty.mixed Try.func77 (by kernel_rfl) rfl (by kernel_rfl) (by simp) ?_; rw [Try.ntmps77, Try.results77]
  simp only [go_sem, ↓reduceIte, reduceCtorEq, nA, nB, nC, nD, nE, nF, nG, nH, iA, *]
  refine loop_for hr (fun k1308 s1307 => ⟨19, [(0, .sl false 2 (a0.map e_api_Value)), (1, .fn 78 [.dptr [.c (.string a1), .c (.int .i64 a2)]]), (7, .c (.int .i64 ((a0.length : Nat) : Int))), (8, .c (.int .i64 (k1308 : Int)))], []⟩) ?_ ?_ ?_
  · try dsimp only
    refine LeS.pick [] rfl rfl ?_ ?_
    all_goals simp (maxDischargeDepth := 40) only [go_sem, ↓reduceIte, reduceCtorEq, nA, nB, nC, nD, nE, nF, nG, nH, iA, cast0, cast1, lA, lB, lC, lD, lE, mapV_nil, *]
  · intro k1308 s1307 qhc1310 h1311 h1312 h1313 h1314 hq1309 hc1310 Khc1310 hKhc1310
    try dsimp only at hq1309
    obtain ⟨x1316, h1317, r1318⟩ := bindS hq1309
    clear hq1309
    try dsimp only at r1318
    have g67 := get_map e_api_Value h1317
    simp only [go_sem, ↓reduceIte, reduceCtorEq, nA, nB, nC, nD, nE, nF, nG, nH, iA, *]
    obtain ⟨y1320, h1321, r1322⟩ := bindS r1318
    clear r1318
    try dsimp only at r1322
    cases h1323 : y1320 with
    | true =>
      simp only [h1323, ↓reduceIte, Bool.false_eq_true] at r1322
      refine call_meets ((linear_Eval_1__v_ok h1321).le ?_) (by first | (simp only [go_sem, ↓reduceIte, reduceCtorEq, nA, nB, nC, nD, nE, nF, nG, nH, iA, *] <;> rfl) | rfl) ?_
      · simp (maxDischargeDepth := 40) only [go_sem, ↓reduceIte, reduceCtorEq, nA, nB, nC, nD, nE, nF, nG, nH, iA, cast0, cast1, lA, lB, lC, lD, lE, mapV_nil, *]
      simp only [go_sem, ↓reduceIte, reduceCtorEq, nA, nB, nC, nD, nE, nF, nG, nH, iA, *]
      cases r1322
      dsimp only [St.on, Sum.elim_inr] at hc1310
      cases hc1310
      simp (maxDischargeDepth := 40) only [go_sem, ↓reduceIte, reduceCtorEq, nA, nB, nC, nD, nE, nF, nG, nH, iA, cast0, cast1, lA, lB, lC, lD, lE, mapV_nil, *]
    | false =>
      simp only [h1323, ↓reduceIte, Bool.false_eq_true] at r1322
      refine call_meets ((linear_Eval_1__v_ok h1321).le ?_) (by first | (simp only [go_sem, ↓reduceIte, reduceCtorEq, nA, nB, nC, nD, nE, nF, nG, nH, iA, *] <;> rfl) | rfl) ?_
      · simp (maxDischargeDepth := 40) only [go_sem, ↓reduceIte, reduceCtorEq, nA, nB, nC, nD, nE, nF, nG, nH, iA, cast0, cast1, lA, lB, lC, lD, lE, mapV_nil, *]
      simp only [go_sem, ↓reduceIte, reduceCtorEq, nA, nB, nC, nD, nE, nF, nG, nH, iA, *]
      cases r1322
      refine hKhc1310 _ _ rfl ?_
      try dsimp only
      refine LeS.pick [] rfl rfl ?_ ?_
      all_goals simp (maxDischargeDepth := 40) only [go_sem, ↓reduceIte, reduceCtorEq, nA, nB, nC, nD, nE, nF, nG, nH, iA, cast0, cast1, lA, lB, lC, lD, lE, mapV_nil, *]
  · clear hr
    intro s1307 hr h1311 h1315 Khc1310
    dsimp only [Sum.elim_inl] at hr
    simp only [go_sem, ↓reduceIte, reduceCtorEq, nA, nB, nC, nD, nE, nF, nG, nH, iA, *]
    cases hr
    simp (maxDischargeDepth := 40) only [go_sem, ↓reduceIte, reduceCtorEq, nA, nB, nC, nD, nE, nF, nG, nH, iA, cast0, cast1, lA, lB, lC, lD, lE, mapV_nil, *]

def linear_Eval (a0 : Int × (List (ByteArray × Int))) (a1 : List (ByteArray × Int)) : Option (Int × Int) :=
  (linear_Valid a0).bind fun y1279 =>
if y1279 then
  (forC (R := Int × Int) (a0.2.length) (a0.1 : Int) fun k1352 s1351 =>
    (a0.2[k1352]?).bind fun x1360 =>
    (slices_IndexFunc_L_api_Value__linear_Eval_1 a1 x1360.1 x1360.2).bind fun y1364 =>
    if (decide (y1364 < (0 : Int))) then
      some (.rt ((0 : Int), (7 : Int)))
    else
      (idxO a1 y1364).bind fun x1368 =>
      if (decide (x1368.2 < (-1000000000 : Int))) then
        some (.rt ((0 : Int), (2 : Int)))
      else
        if (decide ((1000000000 : Int) < x1368.2)) then
          some (.rt ((0 : Int), (2 : Int)))
        else
          some (.nx (IntKind.i64.wrap (s1351 + (IntKind.i64.wrap (x1360.2 * x1368.2)))))).bind (Sum.elim (fun s1351 =>
    some (s1351, (0 : Int))) some)
else
  some ((0 : Int), (1 : Int))
set_option maxHeartbeats 2000000 in
theorem linear_Eval_ok {a0 : Int × (List (ByteArray × Int))} {a1 : List (ByteArray × Int)} {r : Int × Int} (hr : linear_Eval a0 a1 = some r) : Meets Try.prog 53 [.agg [.c (.int .i64 a0.1), .sl false 2 (a0.2.map e_api_Coef)], .sl false 2 (a1.map e_api_Value)] (.tup [.c (.int .i64 r.1), .c (.int .i64 r.2)]) := by
  unfold linear_Eval at hr
  refine meetsV_of (X := true) Ty.mixed Try.func53 (by kernel_rfl) rfl (by kernel_rfl) (by simp) ?_; rw [Try.ntmps53, Try.results53]
  simp only [go_sem, ↓reduceIte, reduceCtorEq, nA, nB, nC, nD, nE, nF, nG, nH, iA, *]
  obtain ⟨y1279, h1280, r1281⟩ := bindS hr
  clear hr
  try dsimp only at r1281
  cases h1282 : y1279 with
  | true =>
    simp only [h1282, ↓reduceIte, Bool.false_eq_true] at r1281
    refine call_meets ((linear_Valid_ok h1280).le ?_) (by first | (simp only [go_sem, ↓reduceIte, reduceCtorEq, nA, nB, nC, nD, nE, nF, nG, nH, iA, *] <;> rfl) | rfl) ?_
    · simp (maxDischargeDepth := 40) only [go_sem, ↓reduceIte, reduceCtorEq, nA, nB, nC, nD, nE, nF, nG, nH, iA, cast0, cast1, lA, lB, lC, lD, lE, mapV_nil, *]
    simp only [go_sem, ↓reduceIte, reduceCtorEq, nA, nB, nC, nD, nE, nF, nG, nH, iA, *]
    refine loop_for r1281 (fun k1352 s1351 => ⟨51, [(1, .sl false 2 (a1.map e_api_Value)), (6, .c (.int .i64 s1351)), (17, .sl false 2 (a0.2.map e_api_Coef)), (18, .c (.int .i64 ((a0.2.length : Nat) : Int))), (19, .c (.int .i64 (k1352 : Int)))], [some (.var 26 [.c (.int .i64 a0.1), .sl false 2 (a0.2.map e_api_Coef)])]⟩) ?_ ?_ ?_
    · try dsimp only
      refine LeS.pick [some 0] rfl rfl ?_ ?_
      all_goals simp (maxDischargeDepth := 40) only [go_sem, ↓reduceIte, reduceCtorEq, nA, nB, nC, nD, nE, nF, nG, nH, iA, cast0, cast1, lA, lB, lC, lD, lE, mapV_nil, *]
    · intro k1352 s1351 qhc1354 h1355 h1356 h1357 h1358 hq1353 hc1354 Khc1354 hKhc1354
      try dsimp only at hq1353
      obtain ⟨x1360, h1361, r1362⟩ := bindS hq1353
      clear hq1353
      try dsimp only at r1362
      have g68 := get_map e_api_Coef h1361
      simp only [go_sem, ↓reduceIte, reduceCtorEq, nA, nB, nC, nD, nE, nF, nG, nH, iA, *]
      obtain ⟨y1364, h1365, r1366⟩ := bindS r1362
      clear r1362
      try dsimp only at r1366
      cases h1367 : (decide (y1364 < (0 : Int))) with
      | true =>
        simp only [h1367, ↓reduceIte, Bool.false_eq_true] at r1366
        refine call_meets ((slices_IndexFunc_L_api_Value__linear_Eval_1_ok h1365).le ?_) (by first | (simp only [go_sem, ↓reduceIte, reduceCtorEq, nA, nB, nC, nD, nE, nF, nG, nH, iA, *] <;> rfl) | rfl) ?_
        · simp (maxDischargeDepth := 40) only [go_sem, ↓reduceIte, reduceCtorEq, nA, nB, nC, nD, nE, nF, nG, nH, iA, cast0, cast1, lA, lB, lC, lD, lE, mapV_nil, *]
        simp only [go_sem, ↓reduceIte, reduceCtorEq, nA, nB, nC, nD, nE, nF, nG, nH, iA, *]
        cases r1366
        dsimp only [St.on, Sum.elim_inr] at hc1354
        cases hc1354
        simp (maxDischargeDepth := 40) only [go_sem, ↓reduceIte, reduceCtorEq, nA, nB, nC, nD, nE, nF, nG, nH, iA, cast0, cast1, lA, lB, lC, lD, lE, mapV_nil, *]
      | false =>
        simp only [h1367, ↓reduceIte, Bool.false_eq_true] at r1366
        obtain ⟨x1368, h1369, r1370⟩ := bindS r1366
        clear r1366
        try dsimp only at r1370
        obtain ⟨h1371, _, h1369⟩ := idxO_some h1369
        cases h1372 : (decide (x1368.2 < (-1000000000 : Int))) with
        | true =>
          simp only [h1372, ↓reduceIte, Bool.false_eq_true] at r1370
          have g69 := get_map e_api_Value h1369
          refine call_meets ((slices_IndexFunc_L_api_Value__linear_Eval_1_ok h1365).le ?_) (by first | (simp only [go_sem, ↓reduceIte, reduceCtorEq, nA, nB, nC, nD, nE, nF, nG, nH, iA, *] <;> rfl) | rfl) ?_
          · simp (maxDischargeDepth := 40) only [go_sem, ↓reduceIte, reduceCtorEq, nA, nB, nC, nD, nE, nF, nG, nH, iA, cast0, cast1, lA, lB, lC, lD, lE, mapV_nil, *]
          simp only [go_sem, ↓reduceIte, reduceCtorEq, nA, nB, nC, nD, nE, nF, nG, nH, iA, *]
          cases r1370
          dsimp only [St.on, Sum.elim_inr] at hc1354
          cases hc1354
          simp (maxDischargeDepth := 40) only [go_sem, ↓reduceIte, reduceCtorEq, nA, nB, nC, nD, nE, nF, nG, nH, iA, cast0, cast1, lA, lB, lC, lD, lE, mapV_nil, *]
        | false =>
          simp only [h1372, ↓reduceIte, Bool.false_eq_true] at r1370
          cases h1373 : (decide ((1000000000 : Int) < x1368.2)) with
          | true =>
            simp only [h1373, ↓reduceIte, Bool.false_eq_true] at r1370
            have g70 := get_map e_api_Value h1369
            refine call_meets ((slices_IndexFunc_L_api_Value__linear_Eval_1_ok h1365).le ?_) (by first | (simp only [go_sem, ↓reduceIte, reduceCtorEq, nA, nB, nC, nD, nE, nF, nG, nH, iA, *] <;> rfl) | rfl) ?_
            · simp (maxDischargeDepth := 40) only [go_sem, ↓reduceIte, reduceCtorEq, nA, nB, nC, nD, nE, nF, nG, nH, iA, cast0, cast1, lA, lB, lC, lD, lE, mapV_nil, *]
            simp only [go_sem, ↓reduceIte, reduceCtorEq, nA, nB, nC, nD, nE, nF, nG, nH, iA, *]
            cases r1370
            dsimp only [St.on, Sum.elim_inr] at hc1354
            cases hc1354
            simp (maxDischargeDepth := 40) only [go_sem, ↓reduceIte, reduceCtorEq, nA, nB, nC, nD, nE, nF, nG, nH, iA, cast0, cast1, lA, lB, lC, lD, lE, mapV_nil, *]
          | false =>
            simp only [h1373, ↓reduceIte, Bool.false_eq_true] at r1370
            have g71 := get_map e_api_Value h1369
            refine call_meets ((slices_IndexFunc_L_api_Value__linear_Eval_1_ok h1365).le ?_) (by first | (simp only [go_sem, ↓reduceIte, reduceCtorEq, nA, nB, nC, nD, nE, nF, nG, nH, iA, *] <;> rfl) | rfl) ?_
            · simp (maxDischargeDepth := 40) only [go_sem, ↓reduceIte, reduceCtorEq, nA, nB, nC, nD, nE, nF, nG, nH, iA, cast0, cast1, lA, lB, lC, lD, lE, mapV_nil, *]
            simp only [go_sem, ↓reduceIte, reduceCtorEq, nA, nB, nC, nD, nE, nF, nG, nH, iA, *]
            refine drawS_tail (by kernel_rfl) ?_
            simp only [go_sem, ↓reduceIte, reduceCtorEq, nA, nB, nC, nD, nE, nF, nG, nH, iA, *]
            cases r1370
            refine hKhc1354 _ _ rfl ?_
            try dsimp only
            refine LeS.pick [some 0] rfl rfl ?_ ?_
            all_goals simp (maxDischargeDepth := 40) only [go_sem, ↓reduceIte, reduceCtorEq, nA, nB, nC, nD, nE, nF, nG, nH, iA, cast0, cast1, lA, lB, lC, lD, lE, mapV_nil, *]
    · clear r1281
      intro s1351 r1281 h1355 h1359 Khc1354
      dsimp only [Sum.elim_inl] at r1281
      simp only [go_sem, ↓reduceIte, reduceCtorEq, nA, nB, nC, nD, nE, nF, nG, nH, iA, *]
      cases r1281
      simp (maxDischargeDepth := 40) only [go_sem, ↓reduceIte, reduceCtorEq, nA, nB, nC, nD, nE, nF, nG, nH, iA, cast0, cast1, lA, lB, lC, lD, lE, mapV_nil, *]
  | false =>
    simp only [h1282, ↓reduceIte, Bool.false_eq_true] at r1281
    refine call_meets ((linear_Valid_ok h1280).le ?_) (by first | (simp only [go_sem, ↓reduceIte, reduceCtorEq, nA, nB, nC, nD, nE, nF, nG, nH, iA, *] <;> rfl) | rfl) ?_
    · simp (maxDischargeDepth := 40) only [go_sem, ↓reduceIte, reduceCtorEq, nA, nB, nC, nD, nE, nF, nG, nH, iA, cast0, cast1, lA, lB, lC, lD, lE, mapV_nil, *]
    simp only [go_sem, ↓reduceIte, reduceCtorEq, nA, nB, nC, nD, nE, nF, nG, nH, iA, *]
    cases r1281
    simp (maxDischargeDepth := 40) only [go_sem, ↓reduceIte, reduceCtorEq, nA, nB, nC, nD, nE, nF, nG, nH, iA, cast0, cast1, lA, lB, lC, lD, lE, mapV_nil, *]

def certificate_Holds_1__v (a0 : Bool × (Int × (List (ByteArray × Int)))) (a1 : List (ByteArray × Int)) : Option Bool :=
  (linear_Eval a0.2 a1).bind fun y1374 =>
if (y1374.2 != (0 : Int)) then
  some true
else
  if (decide (y1374.1 < (0 : Int))) then
    some true
  else
    if a0.1 then
      some (decide ((0 : Int) < y1374.1))
    else
      some false
set_option maxHeartbeats 2000000 in
theorem certificate_Holds_1__v_ok {a0 : Bool × (Int × (List (ByteArray × Int)))} {a1 : List (ByteArray × Int)} {r : Bool} (hr : certificate_Holds_1__v a0 a1 = some r) : Meets Try.prog 52 [.agg [.c (.bool a0.1), .c (.int .i64 a0.2.1), .sl false 2 (a0.2.2.map e_api_Coef)], .dptr [.sl false 2 (a1.map e_api_Value)]] (.c (.bool r)) := by
  unfold certificate_Holds_1__v at hr
  refine meetsV_of (X := true) Ty.mixed Try.func52 (by kernel_rfl) rfl (by kernel_rfl) (by simp) ?_; rw [Try.ntmps52, Try.results52]
  simp only [go_sem, ↓reduceIte, reduceCtorEq, nA, nB, nC, nD, nE, nF, nG, nH, iA, *]
  obtain ⟨y1374, h1375, r1376⟩ := bindS hr
  clear hr
  try dsimp only at r1376
  cases h1377 : (y1374.2 != (0 : Int)) with
  | true =>
    simp only [h1377, ↓reduceIte, Bool.false_eq_true] at r1376
    refine call_meets ((linear_Eval_ok h1375).le ?_) (by first | (simp only [go_sem, ↓reduceIte, reduceCtorEq, nA, nB, nC, nD, nE, nF, nG, nH, iA, *] <;> rfl) | rfl) ?_
    · simp (maxDischargeDepth := 40) only [go_sem, ↓reduceIte, reduceCtorEq, nA, nB, nC, nD, nE, nF, nG, nH, iA, cast0, cast1, lA, lB, lC, lD, lE, mapV_nil, *]
    simp only [go_sem, ↓reduceIte, reduceCtorEq, nA, nB, nC, nD, nE, nF, nG, nH, iA, *]
    cases r1376
    simp (maxDischargeDepth := 40) only [go_sem, ↓reduceIte, reduceCtorEq, nA, nB, nC, nD, nE, nF, nG, nH, iA, cast0, cast1, lA, lB, lC, lD, lE, mapV_nil, *]
  | false =>
    simp only [h1377, ↓reduceIte, Bool.false_eq_true] at r1376
    cases h1378 : (decide (y1374.1 < (0 : Int))) with
    | true =>
      simp only [h1378, ↓reduceIte, Bool.false_eq_true] at r1376
      refine call_meets ((linear_Eval_ok h1375).le ?_) (by first | (simp only [go_sem, ↓reduceIte, reduceCtorEq, nA, nB, nC, nD, nE, nF, nG, nH, iA, *] <;> rfl) | rfl) ?_
      · simp (maxDischargeDepth := 40) only [go_sem, ↓reduceIte, reduceCtorEq, nA, nB, nC, nD, nE, nF, nG, nH, iA, cast0, cast1, lA, lB, lC, lD, lE, mapV_nil, *]
      simp only [go_sem, ↓reduceIte, reduceCtorEq, nA, nB, nC, nD, nE, nF, nG, nH, iA, *]
      cases r1376
      simp (maxDischargeDepth := 40) only [go_sem, ↓reduceIte, reduceCtorEq, nA, nB, nC, nD, nE, nF, nG, nH, iA, cast0, cast1, lA, lB, lC, lD, lE, mapV_nil, *]
    | false =>
      simp only [h1378, ↓reduceIte, Bool.false_eq_true] at r1376
      cases h1379 : a0.1 with
      | true =>
        simp only [h1379, ↓reduceIte, Bool.false_eq_true] at r1376
        refine call_meets ((linear_Eval_ok h1375).le ?_) (by first | (simp only [go_sem, ↓reduceIte, reduceCtorEq, nA, nB, nC, nD, nE, nF, nG, nH, iA, *] <;> rfl) | rfl) ?_
        · simp (maxDischargeDepth := 40) only [go_sem, ↓reduceIte, reduceCtorEq, nA, nB, nC, nD, nE, nF, nG, nH, iA, cast0, cast1, lA, lB, lC, lD, lE, mapV_nil, *]
        simp only [go_sem, ↓reduceIte, reduceCtorEq, nA, nB, nC, nD, nE, nF, nG, nH, iA, *]
        cases r1376
        simp (maxDischargeDepth := 40) only [go_sem, ↓reduceIte, reduceCtorEq, nA, nB, nC, nD, nE, nF, nG, nH, iA, cast0, cast1, lA, lB, lC, lD, lE, mapV_nil, *]
      | false =>
        simp only [h1379, ↓reduceIte, Bool.false_eq_true] at r1376
        refine call_meets ((linear_Eval_ok h1375).le ?_) (by first | (simp only [go_sem, ↓reduceIte, reduceCtorEq, nA, nB, nC, nD, nE, nF, nG, nH, iA, *] <;> rfl) | rfl) ?_
        · simp (maxDischargeDepth := 40) only [go_sem, ↓reduceIte, reduceCtorEq, nA, nB, nC, nD, nE, nF, nG, nH, iA, cast0, cast1, lA, lB, lC, lD, lE, mapV_nil, *]
        simp only [go_sem, ↓reduceIte, reduceCtorEq, nA, nB, nC, nD, nE, nF, nG, nH, iA, *]
        cases r1376
        simp (maxDischargeDepth := 40) only [go_sem, ↓reduceIte, reduceCtorEq, nA, nB, nC, nD, nE, nF, nG, nH, iA, cast0, cast1, lA, lB, lC, lD, lE, mapV_nil, *]

def slices_IndexFunc_L_api_Fact__certificate_Holds_1 (a0 : List (Bool × (Int × (List (ByteArray × Int))))) (a1 : List (ByteArray × Int)) : Option Int :=
  (forC (R := Int) (a0.length) (() : Unit) fun k1395 s1394 =>
  (a0[k1395]?).bind fun x1403 =>
  (certificate_Holds_1__v x1403 a1).bind fun y1407 =>
  if y1407 then
    some (.rt (k1395 : Int))
  else
    some (.nx ())).bind (Sum.elim (fun s1394 =>
  some (-1 : Int)) some)
set_option maxHeartbeats 2000000 in
theorem slices_IndexFunc_L_api_Fact__certificate_Holds_1_ok {a0 : List (Bool × (Int × (List (ByteArray × Int))))} {a1 : List (ByteArray × Int)} {r : Int} (hr : slices_IndexFunc_L_api_Fact__certificate_Holds_1 a0 a1 = some r) : Meets Try.prog 74 [.sl false 3 (a0.map e_api_Fact), .fn 52 [.dptr [.sl false 2 (a1.map e_api_Value)]]] (.c (.int .i64 r)) := by
  unfold slices_IndexFunc_L_api_Fact__certificate_Holds_1 at hr
  refine meetsV_of (X := true) Ty.mixed Try.func74 (by kernel_rfl) rfl (by kernel_rfl) (by simp) ?_; rw [Try.ntmps74, Try.results74]
  simp only [go_sem, ↓reduceIte, reduceCtorEq, nA, nB, nC, nD, nE, nF, nG, nH, iA, *]
  refine loop_for hr (fun k1395 s1394 => ⟨19, [(0, .sl false 3 (a0.map e_api_Fact)), (1, .fn 52 [.dptr [.sl false 2 (a1.map e_api_Value)]]), (7, .c (.int .i64 ((a0.length : Nat) : Int))), (8, .c (.int .i64 (k1395 : Int)))], []⟩) ?_ ?_ ?_
  · try dsimp only
    refine LeS.pick [] rfl rfl ?_ ?_
    all_goals simp (maxDischargeDepth := 40) only [go_sem, ↓reduceIte, reduceCtorEq, nA, nB, nC, nD, nE, nF, nG, nH, iA, cast0, cast1, lA, lB, lC, lD, lE, mapV_nil, *]
  · intro k1395 s1394 qhc1397 h1398 h1399 h1400 h1401 hq1396 hc1397 Khc1397 hKhc1397
    try dsimp only at hq1396
    obtain ⟨x1403, h1404, r1405⟩ := bindS hq1396
    clear hq1396
    try dsimp only at r1405
    have g72 := get_map e_api_Fact h1404
    simp only [go_sem, ↓reduceIte, reduceCtorEq, nA, nB, nC, nD, nE, nF, nG, nH, iA, *]
    obtain ⟨y1407, h1408, r1409⟩ := bindS r1405
    clear r1405
    try dsimp only at r1409
    cases h1410 : y1407 with
    | true =>
      simp only [h1410, ↓reduceIte, Bool.false_eq_true] at r1409
      refine call_meets ((certificate_Holds_1__v_ok h1408).le ?_) (by first | (simp only [go_sem, ↓reduceIte, reduceCtorEq, nA, nB, nC, nD, nE, nF, nG, nH, iA, *] <;> rfl) | rfl) ?_
      · simp (maxDischargeDepth := 40) only [go_sem, ↓reduceIte, reduceCtorEq, nA, nB, nC, nD, nE, nF, nG, nH, iA, cast0, cast1, lA, lB, lC, lD, lE, mapV_nil, *]
      simp only [go_sem, ↓reduceIte, reduceCtorEq, nA, nB, nC, nD, nE, nF, nG, nH, iA, *]
      cases r1409
      dsimp only [St.on, Sum.elim_inr] at hc1397
      cases hc1397
      simp (maxDischargeDepth := 40) only [go_sem, ↓reduceIte, reduceCtorEq, nA, nB, nC, nD, nE, nF, nG, nH, iA, cast0, cast1, lA, lB, lC, lD, lE, mapV_nil, *]
    | false =>
      simp only [h1410, ↓reduceIte, Bool.false_eq_true] at r1409
      refine call_meets ((certificate_Holds_1__v_ok h1408).le ?_) (by first | (simp only [go_sem, ↓reduceIte, reduceCtorEq, nA, nB, nC, nD, nE, nF, nG, nH, iA, *] <;> rfl) | rfl) ?_
      · simp (maxDischargeDepth := 40) only [go_sem, ↓reduceIte, reduceCtorEq, nA, nB, nC, nD, nE, nF, nG, nH, iA, cast0, cast1, lA, lB, lC, lD, lE, mapV_nil, *]
      simp only [go_sem, ↓reduceIte, reduceCtorEq, nA, nB, nC, nD, nE, nF, nG, nH, iA, *]
      cases r1409
      refine hKhc1397 _ _ rfl ?_
      try dsimp only
      refine LeS.pick [] rfl rfl ?_ ?_
      all_goals simp (maxDischargeDepth := 40) only [go_sem, ↓reduceIte, reduceCtorEq, nA, nB, nC, nD, nE, nF, nG, nH, iA, cast0, cast1, lA, lB, lC, lD, lE, mapV_nil, *]
  · clear hr
    intro s1394 hr h1398 h1402 Khc1397
    dsimp only [Sum.elim_inl] at hr
    simp only [go_sem, ↓reduceIte, reduceCtorEq, nA, nB, nC, nD, nE, nF, nG, nH, iA, *]
    cases hr
    simp (maxDischargeDepth := 40) only [go_sem, ↓reduceIte, reduceCtorEq, nA, nB, nC, nD, nE, nF, nG, nH, iA, cast0, cast1, lA, lB, lC, lD, lE, mapV_nil, *]

def slices_ContainsFunc_L_api_Fact__certificate_Holds_1 (a0 : List (Bool × (Int × (List (ByteArray × Int))))) (a1 : List (ByteArray × Int)) : Option Bool :=
  (slices_IndexFunc_L_api_Fact__certificate_Holds_1 a0 a1).bind fun y1411 =>
some (decide ((0 : Int) ≤ y1411))
set_option maxHeartbeats 2000000 in
theorem slices_ContainsFunc_L_api_Fact__certificate_Holds_1_ok {a0 : List (Bool × (Int × (List (ByteArray × Int))))} {a1 : List (ByteArray × Int)} {r : Bool} (hr : slices_ContainsFunc_L_api_Fact__certificate_Holds_1 a0 a1 = some r) : Meets Try.prog 49 [.sl false 3 (a0.map e_api_Fact), .fn 52 [.dptr [.sl false 2 (a1.map e_api_Value)]]] (.c (.bool r)) := by
  unfold slices_ContainsFunc_L_api_Fact__certificate_Holds_1 at hr
  refine meetsV_of (X := true) Ty.mixed Try.func49 (by kernel_rfl) rfl (by kernel_rfl) (by simp) ?_; rw [Try.ntmps49, Try.results49]
  simp only [go_sem, ↓reduceIte, reduceCtorEq, nA, nB, nC, nD, nE, nF, nG, nH, iA, *]
  obtain ⟨y1411, h1412, r1413⟩ := bindS hr
  clear hr
  try dsimp only at r1413
  refine call_meets ((slices_IndexFunc_L_api_Fact__certificate_Holds_1_ok h1412).le ?_) (by first | (simp only [go_sem, ↓reduceIte, reduceCtorEq, nA, nB, nC, nD, nE, nF, nG, nH, iA, *] <;> rfl) | rfl) ?_
  · simp (maxDischargeDepth := 40) only [go_sem, ↓reduceIte, reduceCtorEq, nA, nB, nC, nD, nE, nF, nG, nH, iA, cast0, cast1, lA, lB, lC, lD, lE, mapV_nil, *]
  simp only [go_sem, ↓reduceIte, reduceCtorEq, nA, nB, nC, nD, nE, nF, nG, nH, iA, *]
  cases r1413
  simp (maxDischargeDepth := 40) only [go_sem, ↓reduceIte, reduceCtorEq, nA, nB, nC, nD, nE, nF, nG, nH, iA, cast0, cast1, lA, lB, lC, lD, lE, mapV_nil, *]

def certificate_Holds (a0 : List (Bool × (Int × (List (ByteArray × Int))))) (a1 : List (ByteArray × Int)) : Option Bool :=
  (slices_ContainsFunc_L_api_Fact__certificate_Holds_1 a0 a1).bind fun y1414 =>
some (!y1414)
set_option maxHeartbeats 2000000 in
theorem certificate_Holds_ok {a0 : List (Bool × (Int × (List (ByteArray × Int))))} {a1 : List (ByteArray × Int)} {r : Bool} (hr : certificate_Holds a0 a1 = some r) : Meets Try.prog 22 [.sl false 3 (a0.map e_api_Fact), .sl false 2 (a1.map e_api_Value)] (.c (.bool r)) := by
  unfold certificate_Holds at hr
  refine meetsV_of (X := true) Ty.mixed Try.func22 (by kernel_rfl) rfl (by kernel_rfl) (by simp) ?_; rw [Try.ntmps22, Try.results22]
  simp only [go_sem, ↓reduceIte, reduceCtorEq, nA, nB, nC, nD, nE, nF, nG, nH, iA, *]
  obtain ⟨y1414, h1415, r1416⟩ := bindS hr
  clear hr
  try dsimp only at r1416
  refine call_meets ((slices_ContainsFunc_L_api_Fact__certificate_Holds_1_ok h1415).le ?_) (by first | (simp only [go_sem, ↓reduceIte, reduceCtorEq, nA, nB, nC, nD, nE, nF, nG, nH, iA, *] <;> rfl) | rfl) ?_
  · simp (maxDischargeDepth := 40) only [go_sem, ↓reduceIte, reduceCtorEq, nA, nB, nC, nD, nE, nF, nG, nH, iA, cast0, cast1, lA, lB, lC, lD, lE, mapV_nil, *]
  simp only [go_sem, ↓reduceIte, reduceCtorEq, nA, nB, nC, nD, nE, nF, nG, nH, iA, *]
  cases r1416
  simp (maxDischargeDepth := 40) only [go_sem, ↓reduceIte, reduceCtorEq, nA, nB, nC, nD, nE, nF, nG, nH, iA, cast0, cast1, lA, lB, lC, lD, lE, mapV_nil, *]

def certificate_Proves (a0 : List (Int × (List (ByteArray × Int)))) (a1 : Int × (List (ByteArray × Int))) (a2 : T_api_Cert) : Option Int :=
  (forC (R := Int) (a0.length) ([] : (List (Bool × (Int × (List (ByteArray × Int)))))) fun k1432 s1431 =>
  (a0[k1432]?).bind fun x1440 =>
  iffO (decide ((s1431.length + 1) * 40 ≤ 140737488355328))
    (some (.nx (s1431 ++ [(false, x1440)])))).bind (Sum.elim (fun s1431 =>
  (certificate_Valid s1431).bind fun y1446 =>
  if y1446 then
    (certificate_Negate a1).bind fun y1450 =>
    if (y1450.2 != (0 : Int)) then
      some y1450.2
    else
      iffO (decide ((s1431.length + 1) * 40 ≤ 140737488355328))
        ((certificate_Check (s1431 ++ [(false, y1450.1)]) a2).bind fun y1456 =>
        some y1456)
  else
    some (1 : Int)) some)
set_option maxHeartbeats 2000000 in
theorem certificate_Proves_ok {a0 : List (Int × (List (ByteArray × Int)))} {a1 : Int × (List (ByteArray × Int))} {a2 : T_api_Cert} {r : Int} (hr : certificate_Proves a0 a1 a2 = some r) : Meets Try.prog 28 [.sl false 2 (a0.map e_api_Linear), .agg [.c (.int .i64 a1.1), .sl false 2 (a1.2.map e_api_Coef)], .agg [.c (.int .i64 a2.f0), .sl false 1 (a2.f1.map e_int), .c (.int .i64 a2.f2.1), .sl false 2 (a2.f2.2.map e_api_Coef), .sl false 5 (a2.f3.map e_api_Cert)]] (.c (.int .i64 r)) := by
  unfold certificate_Proves at hr
  refine meetsV_of (X := true) Ty.mixed Try.func28 (by kernel_rfl) rfl (by kernel_rfl) (by simp) ?_; rw [Try.ntmps28, Try.results28]
  simp only [go_sem, ↓reduceIte, reduceCtorEq, nA, nB, nC, nD, nE, nF, nG, nH, iA, *]
  refine loop_for hr (fun k1432 s1431 => ⟨42, [(4, .ptr 0 0), (5, .ptr 1 0), (7, .own 2 3 s1431.length), (12, .sl false 2 (a0.map e_api_Linear)), (13, .c (.int .i64 ((a0.length : Nat) : Int))), (14, .c (.int .i64 (k1432 : Int)))], [some (.var 26 [.c (.int .i64 a1.1), .sl false 2 (a1.2.map e_api_Coef)]), some (.var 29 [.c (.int .i64 a2.f0), .sl false 1 (a2.f1.map e_int), .c (.int .i64 a2.f2.1), .sl false 2 (a2.f2.2.map e_api_Coef), .sl false 5 (a2.f3.map e_api_Cert)]), some (.row 51 3 (s1431.map e_api_Fact))]⟩) ?_ ?_ ?_
  · try dsimp only
    refine LeS.pick [some 0, some 1, none] rfl rfl ?_ ?_
    all_goals simp (maxDischargeDepth := 40) only [go_sem, ↓reduceIte, reduceCtorEq, nA, nB, nC, nD, nE, nF, nG, nH, iA, cast0, cast1, lA, lB, lC, lD, lE, mapV_nil, *]
  · intro k1432 s1431 qhc1434 h1435 h1436 h1437 h1438 hq1433 hc1434 Khc1434 hKhc1434
    try dsimp only at hq1433
    obtain ⟨x1440, h1441, r1442⟩ := bindS hq1433
    clear hq1433
    try dsimp only at r1442
    obtain ⟨h1444, r1445⟩ := iffO_some r1442
    clear r1442
    simp only [Bool.and_eq_true, decide_eq_true_eq] at h1444
    have g73 := get_map e_api_Linear h1441
    simp only [go_sem, ↓reduceIte, reduceCtorEq, nA, nB, nC, nD, nE, nF, nG, nH, iA, *]
    repeat refine ⟨by first | omega | (simp only [List.length_append, List.length_cons, List.length_nil, List.length_map, Nat.zero_add] at *; omega), ?_⟩
    cases r1445
    refine hKhc1434 _ _ rfl ?_
    try dsimp only
    refine LeS.pick [some 0, some 1, some 2] rfl rfl ?_ ?_
    all_goals simp (maxDischargeDepth := 40) only [go_sem, ↓reduceIte, reduceCtorEq, nA, nB, nC, nD, nE, nF, nG, nH, iA, cast0, cast1, lA, lB, lC, lD, lE, mapV_nil, *]
  · clear hr
    intro s1431 hr h1435 h1439 Khc1434
    dsimp only [Sum.elim_inl] at hr
    simp only [go_sem, ↓reduceIte, reduceCtorEq, nA, nB, nC, nD, nE, nF, nG, nH, iA, *]
    obtain ⟨y1446, h1447, r1448⟩ := bindS hr
    clear hr
    try dsimp only at r1448
    cases h1449 : y1446 with
    | true =>
      simp only [h1449, ↓reduceIte, Bool.false_eq_true] at r1448
      refine call_meets ((certificate_Valid_ok h1447).le ?_) (by first | (simp only [go_sem, ↓reduceIte, reduceCtorEq, nA, nB, nC, nD, nE, nF, nG, nH, iA, *] <;> rfl) | rfl) ?_
      · simp (maxDischargeDepth := 40) only [go_sem, ↓reduceIte, reduceCtorEq, nA, nB, nC, nD, nE, nF, nG, nH, iA, cast0, cast1, lA, lB, lC, lD, lE, mapV_nil, *]
      simp only [go_sem, ↓reduceIte, reduceCtorEq, nA, nB, nC, nD, nE, nF, nG, nH, iA, *]
      obtain ⟨y1450, h1451, r1452⟩ := bindS r1448
      clear r1448
      try dsimp only at r1452
      cases h1453 : (y1450.2 != (0 : Int)) with
      | true =>
        simp only [h1453, ↓reduceIte, Bool.false_eq_true] at r1452
        refine call_meets ((certificate_Negate_ok h1451).le ?_) (by first | (simp only [go_sem, ↓reduceIte, reduceCtorEq, nA, nB, nC, nD, nE, nF, nG, nH, iA, *] <;> rfl) | rfl) ?_
        · simp (maxDischargeDepth := 40) only [go_sem, ↓reduceIte, reduceCtorEq, nA, nB, nC, nD, nE, nF, nG, nH, iA, cast0, cast1, lA, lB, lC, lD, lE, mapV_nil, *]
        simp only [go_sem, ↓reduceIte, reduceCtorEq, nA, nB, nC, nD, nE, nF, nG, nH, iA, *]
        cases r1452
        simp (maxDischargeDepth := 40) only [go_sem, ↓reduceIte, reduceCtorEq, nA, nB, nC, nD, nE, nF, nG, nH, iA, cast0, cast1, lA, lB, lC, lD, lE, mapV_nil, *]
      | false =>
        simp only [h1453, ↓reduceIte, Bool.false_eq_true] at r1452
        refine call_meets ((certificate_Negate_ok h1451).le ?_) (by first | (simp only [go_sem, ↓reduceIte, reduceCtorEq, nA, nB, nC, nD, nE, nF, nG, nH, iA, *] <;> rfl) | rfl) ?_
        · simp (maxDischargeDepth := 40) only [go_sem, ↓reduceIte, reduceCtorEq, nA, nB, nC, nD, nE, nF, nG, nH, iA, cast0, cast1, lA, lB, lC, lD, lE, mapV_nil, *]
        simp only [go_sem, ↓reduceIte, reduceCtorEq, nA, nB, nC, nD, nE, nF, nG, nH, iA, *]
        obtain ⟨h1454, r1455⟩ := iffO_some r1452
        clear r1452
        simp only [Bool.and_eq_true, decide_eq_true_eq] at h1454
        refine drawS_wild ?_
        simp (config := {maxSteps := 2000000}) only [go_sem, ↓reduceIte, reduceCtorEq, nA, nB, nC, nD, nE, nF, nG, nH, iA, *]
        repeat refine ⟨by first | omega | (simp only [List.length_append, List.length_cons, List.length_nil, List.length_map, Nat.zero_add] at *; omega), ?_⟩
        obtain ⟨y1456, h1457, r1458⟩ := bindS r1455
        clear r1455
        try dsimp only at r1458
        refine callx_meets ((certificate_Check_ok h1457).le ?_) (by first | (simp (config := {maxSteps := 2000000}) only [go_sem, ↓reduceIte, reduceCtorEq, nA, nB, nC, nD, nE, nF, nG, nH, iA, *] <;> rfl) | rfl) (by simp (config := {maxSteps := 2000000}) only [go_sem, ↓reduceIte, reduceCtorEq, nA, nB, nC, nD, nE, nF, nG, nH, iA, *]) ?_
        · simp (maxDischargeDepth := 40) only [go_sem, ↓reduceIte, reduceCtorEq, nA, nB, nC, nD, nE, nF, nG, nH, iA, cast0, cast1, lA, lB, lC, lD, lE, mapV_nil, *]
        simp (config := {maxSteps := 2000000}) only [go_sem, ↓reduceIte, reduceCtorEq, nA, nB, nC, nD, nE, nF, nG, nH, iA, *]
        repeat refine ⟨by first | omega | (simp only [List.length_append, List.length_cons, List.length_nil, List.length_map, Nat.zero_add] at *; omega), ?_⟩
        first | refine ⟨by kernel_rfl, ?_⟩ | skip
        try simp only [go_sem, ↓reduceIte, reduceCtorEq, nA, nB, nC, nD, nE, nF, nG, nH, iA, *]
        cases r1458
        simp (maxDischargeDepth := 40) only [go_sem, ↓reduceIte, reduceCtorEq, nA, nB, nC, nD, nE, nF, nG, nH, iA, cast0, cast1, lA, lB, lC, lD, lE, mapV_nil, *]
    | false =>
      simp only [h1449, ↓reduceIte, Bool.false_eq_true] at r1448
      refine call_meets ((certificate_Valid_ok h1447).le ?_) (by first | (simp only [go_sem, ↓reduceIte, reduceCtorEq, nA, nB, nC, nD, nE, nF, nG, nH, iA, *] <;> rfl) | rfl) ?_
      · simp (maxDischargeDepth := 40) only [go_sem, ↓reduceIte, reduceCtorEq, nA, nB, nC, nD, nE, nF, nG, nH, iA, cast0, cast1, lA, lB, lC, lD, lE, mapV_nil, *]
      simp only [go_sem, ↓reduceIte, reduceCtorEq, nA, nB, nC, nD, nE, nF, nG, nH, iA, *]
      cases r1448
      simp (maxDischargeDepth := 40) only [go_sem, ↓reduceIte, reduceCtorEq, nA, nB, nC, nD, nE, nF, nG, nH, iA, cast0, cast1, lA, lB, lC, lD, lE, mapV_nil, *]

def certificate_Size : Nat → T_api_Cert → Option Int
  | 0, _ => none
  | fuel + 1, a0 =>
  (forC (R := Int) (a0.f3.length) ((1 : Int) : Int) fun k1483 s1482 =>
  (a0.f3[k1483]?).bind fun x1491 =>
  (certificate_Size fuel x1491).bind fun y1495 =>
  some (.nx (IntKind.i64.wrap (s1482 + y1495)))).bind (Sum.elim (fun s1482 =>
  some s1482) some)
set_option maxHeartbeats 2000000 in
theorem certificate_Size_all (fuel : Nat) : ∀ {a0 : T_api_Cert} {r : Int}, certificate_Size fuel a0 = some r → Meets Try.prog 15 [.agg [.c (.int .i64 a0.f0), .sl false 1 (a0.f1.map e_int), .c (.int .i64 a0.f2.1), .sl false 2 (a0.f2.2.map e_api_Coef), .sl false 5 (a0.f3.map e_api_Cert)]] (.c (.int .i64 r)) := by
  induction fuel with
  | zero =>
    · intro a0 r hr
      rw [certificate_Size] at hr
      cases hr
  | succ fuel ih =>
    have ih_certificate_Size := @ih
    · intro a0 r hr
      rw [certificate_Size] at hr
      refine meetsV_of (X := true) Ty.mixed Try.func15 (by kernel_rfl) rfl (by kernel_rfl) (by simp) ?_; rw [Try.ntmps15, Try.results15]
      simp only [go_sem, ↓reduceIte, reduceCtorEq, nA, nB, nC, nD, nE, nF, nG, nH, iA, *]
      refine loop_for hr (fun k1483 s1482 => ⟨19, [(3, .c (.int .i64 s1482)), (7, .sl false 5 (a0.f3.map e_api_Cert)), (8, .c (.int .i64 ((a0.f3.length : Nat) : Int))), (9, .c (.int .i64 (k1483 : Int)))], [some (.var 29 [.c (.int .i64 a0.f0), .sl false 1 (a0.f1.map e_int), .c (.int .i64 a0.f2.1), .sl false 2 (a0.f2.2.map e_api_Coef), .sl false 5 (a0.f3.map e_api_Cert)])]⟩) ?_ ?_ ?_
      · try dsimp only
        refine LeS.pick [some 0] rfl rfl ?_ ?_
        all_goals simp (maxDischargeDepth := 40) only [go_sem, ↓reduceIte, reduceCtorEq, nA, nB, nC, nD, nE, nF, nG, nH, iA, cast0, cast1, lA, lB, lC, lD, lE, mapV_nil, *]
      · intro k1483 s1482 qhc1485 h1486 h1487 h1488 h1489 hq1484 hc1485 Khc1485 hKhc1485
        try dsimp only at hq1484
        obtain ⟨x1491, h1492, r1493⟩ := bindS hq1484
        clear hq1484
        try dsimp only at r1493
        have g74 := get_map e_api_Cert h1492
        simp only [go_sem, ↓reduceIte, reduceCtorEq, nA, nB, nC, nD, nE, nF, nG, nH, iA, *]
        obtain ⟨y1495, h1496, r1497⟩ := bindS r1493
        clear r1493
        try dsimp only at r1497
        refine call_meets ((ih_certificate_Size h1496).le ?_) (by first | (simp only [go_sem, ↓reduceIte, reduceCtorEq, nA, nB, nC, nD, nE, nF, nG, nH, iA, *] <;> rfl) | rfl) ?_
        · simp (maxDischargeDepth := 40) only [go_sem, ↓reduceIte, reduceCtorEq, nA, nB, nC, nD, nE, nF, nG, nH, iA, cast0, cast1, lA, lB, lC, lD, lE, mapV_nil, *]
        simp only [go_sem, ↓reduceIte, reduceCtorEq, nA, nB, nC, nD, nE, nF, nG, nH, iA, *]
        cases r1497
        refine hKhc1485 _ _ rfl ?_
        try dsimp only
        refine LeS.pick [some 0] rfl rfl ?_ ?_
        all_goals simp (maxDischargeDepth := 40) only [go_sem, ↓reduceIte, reduceCtorEq, nA, nB, nC, nD, nE, nF, nG, nH, iA, cast0, cast1, lA, lB, lC, lD, lE, mapV_nil, *]
      · clear hr
        intro s1482 hr h1486 h1490 Khc1485
        dsimp only [Sum.elim_inl] at hr
        simp only [go_sem, ↓reduceIte, reduceCtorEq, nA, nB, nC, nD, nE, nF, nG, nH, iA, *]
        cases hr
        simp (maxDischargeDepth := 40) only [go_sem, ↓reduceIte, reduceCtorEq, nA, nB, nC, nD, nE, nF, nG, nH, iA, cast0, cast1, lA, lB, lC, lD, lE, mapV_nil, *]
theorem certificate_Size_ok {fuel : Nat} : ∀ {a0 : T_api_Cert} {r : Int}, certificate_Size fuel a0 = some r → Meets Try.prog 15 [.agg [.c (.int .i64 a0.f0), .sl false 1 (a0.f1.map e_int), .c (.int .i64 a0.f2.1), .sl false 2 (a0.f2.2.map e_api_Coef), .sl false 5 (a0.f3.map e_api_Cert)]] (.c (.int .i64 r)) := certificate_Size_all fuel

end Go.Proofs.Ytgjamefpphhobaa.D7P
