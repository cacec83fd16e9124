/- Functions of the program as functions of values. -/
import Derived.Test.YtgjamefpphhobaaD7R
import Derived.Test.YtgjamefpphhobaaGs
namespace Go.Proofs.Ytgjamefpphhobaa.D7L
open Go.Proofs.Ytgjamefpphhobaa.KS Go.Proofs.Ytgjamefpphhobaa.D7P Go.Proofs.Ytgjamefpphhobaa.D7R
open Go Go.Proofs.Ytgjamefpphhobaa.Eng Go.Proofs.Ytgjamefpphhobaa Go.RowKit
set_option linter.unusedSimpArgs false
set_option linter.unusedVariables false
set_option linter.unusedSectionVars false
set_option maxRecDepth 100000
open Nat renaming reduceAdd → nA, reduceMul → nB, reduceLT → nC, reduceLeDiff → nD, reduceEqDiff → nE, reduceSub → nF, reduceMod → nG, reduceDiv → nH
open Int renaming reduceToNat → iA
open List renaming map_append → lA, map_set → lB, map_replicate → lC, map_take → lD, map_drop → lE
attribute [local go_sem] e_api_Cert_is
attribute [local go_sem] List.length_map take_map_self eqB_is lessB_is List.length_append List.length_replicate List.length_set List.take_of_length_le


def law07_sum (a0 : List Int) : Option T_api_Cert :=
  some (T_api_Cert.mk (1 : Int) a0 ((0 : Int), []) [])
set_option maxHeartbeats 2000000 in
theorem law07_sum_ok {a0 : List Int} {r : T_api_Cert} (hr : law07_sum a0 = some r) : Meets Try.prog 38 [.sl false 1 (a0.map e_int)] (.agg [.c (.int .i64 r.f0), .sl false 1 (r.f1.map e_int), .c (.int .i64 r.f2.1), .sl false 2 (r.f2.2.map e_api_Coef), .sl false 5 (r.f3.map e_api_Cert)]) := by
  unfold law07_sum at hr
  refine meetsV_of (X := true) Ty.mixed Try.func38 (by kernel_rfl) rfl (by kernel_rfl) (by simp) ?_; rw [Try.ntmps38, Try.results38]
  simp only [go_sem, ↓reduceIte, reduceCtorEq, nA, nB, nC, nD, nE, nF, nG, nH, iA, *]
  cases hr
  simp (maxDischargeDepth := 40) only [go_sem, ↓reduceIte, reduceCtorEq, nA, nB, nC, nD, nE, nF, nG, nH, iA, cast0, cast1, lA, lB, lC, lD, lE, mapV_nil, *]

def ref04_Itoa : Nat → Int → Option ByteArray
  | 0, _ => none
  | fuel + 1, a0 =>
  if (decide (a0 < (0 : Int))) then
  (ref04_Itoa fuel (IntKind.i64.wrap (0 - a0))).bind fun y3253 =>
  iffO (decide ((((⟨#[45]⟩ : ByteArray).size + y3253.size : Nat) : Int) ≤ 9223372036854775807))
    (some ((⟨#[45]⟩ : ByteArray) ++ y3253))
else
  if (decide (a0 < (10 : Int))) then
    iffO (decide (0 ≤ a0) && decide (a0 ≤ (IntKind.i64.wrap (a0 + (1 : Int)))) && decide ((IntKind.i64.wrap (a0 + (1 : Int))) ≤ ((⟨#[48, 49, 50, 51, 52, 53, 54, 55, 56, 57]⟩ : ByteArray).size : Int)))
      (some ((⟨#[48, 49, 50, 51, 52, 53, 54, 55, 56, 57]⟩ : ByteArray).extract a0.toNat (IntKind.i64.wrap (a0 + (1 : Int))).toNat))
  else
    (ref04_Itoa fuel (IntKind.i64.wrap (a0.tdiv (10 : Int)))).bind fun y3264 =>
    (ref04_Itoa fuel (a0.tmod (10 : Int))).bind fun y3267 =>
    iffO (decide (((y3264.size + y3267.size : Nat) : Int) ≤ 9223372036854775807))
      (some (y3264 ++ y3267))
set_option maxHeartbeats 2000000 in
theorem ref04_Itoa_all (fuel : Nat) : ∀ {a0 : Int} {r : ByteArray}, ref04_Itoa fuel a0 = some r → Meets Try.prog 64 [.c (.int .i64 a0)] (.c (.string r)) := by
  induction fuel with
  | zero =>
    · intro a0 r hr
      rw [ref04_Itoa] at hr
      cases hr
  | succ fuel ih =>
    have ih_ref04_Itoa := @ih
    · intro a0 r hr
      rw [ref04_Itoa] at hr
      refine meetsV_of (X := true) Ty.mixed Try.func64 (by kernel_rfl) rfl (by kernel_rfl) (by simp) ?_; rw [Try.ntmps64, Try.results64]
      cases h3252 : (decide (a0 < (0 : Int))) with
      | true =>
        simp only [h3252, ↓reduceIte, Bool.false_eq_true] at hr
        simp only [go_sem, ↓reduceIte, reduceCtorEq, nA, nB, nC, nD, nE, nF, nG, nH, iA, *]
        obtain ⟨y3253, h3254, r3255⟩ := bindS hr
        clear hr
        try dsimp only at r3255
        obtain ⟨h3256, r3257⟩ := iffO_some r3255
        clear r3255
        simp only [Bool.and_eq_true, decide_eq_true_eq] at h3256
        try simp only [go_sem, ↓reduceIte, reduceCtorEq, nA, nB, nC, nD, nE, nF, nG, nH, iA] at h3256
        refine call_meets ((ih_ref04_Itoa h3254).le ?_) (by first | (simp only [go_sem, ↓reduceIte, reduceCtorEq, nA, nB, nC, nD, nE, nF, nG, nH, iA, *] <;> rfl) | rfl) ?_
        · simp (maxDischargeDepth := 40) only [go_sem, ↓reduceIte, reduceCtorEq, nA, nB, nC, nD, nE, nF, nG, nH, iA, cast0, cast1, lA, lB, lC, lD, lE, mapV_nil, *]
        simp only [go_sem, ↓reduceIte, reduceCtorEq, nA, nB, nC, nD, nE, nF, nG, nH, iA, *]
        cases r3257
        simp (maxDischargeDepth := 40) only [go_sem, ↓reduceIte, reduceCtorEq, nA, nB, nC, nD, nE, nF, nG, nH, iA, cast0, cast1, lA, lB, lC, lD, lE, mapV_nil, *]
      | false =>
        simp only [h3252, ↓reduceIte, Bool.false_eq_true] at hr
        cases h3258 : (decide (a0 < (10 : Int))) with
        | true =>
          simp only [h3258, ↓reduceIte, Bool.false_eq_true] at hr
          obtain ⟨h3259, r3260⟩ := iffO_some hr
          clear hr
          simp only [Bool.and_eq_true, decide_eq_true_eq] at h3259
          try simp only [go_sem, ↓reduceIte, reduceCtorEq, nA, nB, nC, nD, nE, nF, nG, nH, iA] at h3259
          obtain ⟨⟨h3261, h3262⟩, h3263⟩ := h3259
          simp only [go_sem, ↓reduceIte, reduceCtorEq, nA, nB, nC, nD, nE, nF, nG, nH, iA, *]
          cases r3260
          simp (maxDischargeDepth := 40) only [go_sem, ↓reduceIte, reduceCtorEq, nA, nB, nC, nD, nE, nF, nG, nH, iA, cast0, cast1, lA, lB, lC, lD, lE, mapV_nil, *]
        | false =>
          simp only [h3258, ↓reduceIte, Bool.false_eq_true] at hr
          have g1 := (by decide : ¬ ((10 : Int) = 0))
          simp only [go_sem, ↓reduceIte, reduceCtorEq, nA, nB, nC, nD, nE, nF, nG, nH, iA, *]
          obtain ⟨y3264, h3265, r3266⟩ := bindS hr
          clear hr
          try dsimp only at r3266
          refine call_meets ((ih_ref04_Itoa h3265).le ?_) (by first | (simp only [go_sem, ↓reduceIte, reduceCtorEq, nA, nB, nC, nD, nE, nF, nG, nH, iA, *] <;> rfl) | rfl) ?_
          · simp (maxDischargeDepth := 40) only [go_sem, ↓reduceIte, reduceCtorEq, nA, nB, nC, nD, nE, nF, nG, nH, iA, cast0, cast1, lA, lB, lC, lD, lE, mapV_nil, *]
          simp only [go_sem, ↓reduceIte, reduceCtorEq, nA, nB, nC, nD, nE, nF, nG, nH, iA, *]
          obtain ⟨y3267, h3268, r3269⟩ := bindS r3266
          clear r3266
          try dsimp only at r3269
          obtain ⟨h3270, r3271⟩ := iffO_some r3269
          clear r3269
          simp only [Bool.and_eq_true, decide_eq_true_eq] at h3270
          try simp only [go_sem, ↓reduceIte, reduceCtorEq, nA, nB, nC, nD, nE, nF, nG, nH, iA] at h3270
          refine call_meets ((ih_ref04_Itoa h3268).le ?_) (by first | (simp only [go_sem, ↓reduceIte, reduceCtorEq, nA, nB, nC, nD, nE, nF, nG, nH, iA, *] <;> rfl) | rfl) ?_
          · simp (maxDischargeDepth := 40) only [go_sem, ↓reduceIte, reduceCtorEq, nA, nB, nC, nD, nE, nF, nG, nH, iA, cast0, cast1, lA, lB, lC, lD, lE, mapV_nil, *]
          simp only [go_sem, ↓reduceIte, reduceCtorEq, nA, nB, nC, nD, nE, nF, nG, nH, iA, *]
          cases r3271
          simp (maxDischargeDepth := 40) only [go_sem, ↓reduceIte, reduceCtorEq, nA, nB, nC, nD, nE, nF, nG, nH, iA, cast0, cast1, lA, lB, lC, lD, lE, mapV_nil, *]
theorem ref04_Itoa_ok {fuel : Nat} : ∀ {a0 : Int} {r : ByteArray}, ref04_Itoa fuel a0 = some r → Meets Try.prog 64 [.c (.int .i64 a0)] (.c (.string r)) := ref04_Itoa_all fuel

def ref04_Print (a0 : Int × (List (ByteArray × Int))) : Option ByteArray :=
  (ref04_Valid a0).bind fun y3238 =>
if y3238 then
  (forC (R := ByteArray) (a0.2.length) ((⟨#[]⟩ : ByteArray) : ByteArray) fun k3348 s3347 =>
    (a0.2[k3348]?).bind fun x3356 =>
    if (decide (x3356.2 < (0 : Int))) then
      iffO (decide (((s3347.size + (⟨#[45]⟩ : ByteArray).size : Nat) : Int) ≤ 9223372036854775807))
        (if (decide ((1 : Int) < (IntKind.i64.wrap (0 - x3356.2)))) then
          (ref04_Itoa 4611686018427387904 (IntKind.i64.wrap (0 - x3356.2))).bind fun y3364 =>
          iffO (decide ((((s3347 ++ (⟨#[45]⟩ : ByteArray)).size + y3364.size : Nat) : Int) ≤ 9223372036854775807))
            (iffO (decide (((((s3347 ++ (⟨#[45]⟩ : ByteArray)) ++ y3364).size + x3356.1.size : Nat) : Int) ≤ 9223372036854775807))
              (some (.nx (((s3347 ++ (⟨#[45]⟩ : ByteArray)) ++ y3364) ++ x3356.1))))
        else
          iffO (decide ((((s3347 ++ (⟨#[45]⟩ : ByteArray)).size + x3356.1.size : Nat) : Int) ≤ 9223372036854775807))
            (some (.nx ((s3347 ++ (⟨#[45]⟩ : ByteArray)) ++ x3356.1))))
    else
      if (decide ((0 : Int) < (k3348 : Int))) then
        iffO (decide (((s3347.size + (⟨#[43]⟩ : ByteArray).size : Nat) : Int) ≤ 9223372036854775807))
          (if (decide ((1 : Int) < x3356.2)) then
            (ref04_Itoa 4611686018427387904 x3356.2).bind fun y3377 =>
            iffO (decide ((((s3347 ++ (⟨#[43]⟩ : ByteArray)).size + y3377.size : Nat) : Int) ≤ 9223372036854775807))
              (iffO (decide (((((s3347 ++ (⟨#[43]⟩ : ByteArray)) ++ y3377).size + x3356.1.size : Nat) : Int) ≤ 9223372036854775807))
                (some (.nx (((s3347 ++ (⟨#[43]⟩ : ByteArray)) ++ y3377) ++ x3356.1))))
          else
            iffO (decide ((((s3347 ++ (⟨#[43]⟩ : ByteArray)).size + x3356.1.size : Nat) : Int) ≤ 9223372036854775807))
              (some (.nx ((s3347 ++ (⟨#[43]⟩ : ByteArray)) ++ x3356.1))))
      else
        if (decide ((1 : Int) < x3356.2)) then
          (ref04_Itoa 4611686018427387904 x3356.2).bind fun y3387 =>
          iffO (decide (((s3347.size + y3387.size : Nat) : Int) ≤ 9223372036854775807))
            (iffO (decide ((((s3347 ++ y3387).size + x3356.1.size : Nat) : Int) ≤ 9223372036854775807))
              (some (.nx ((s3347 ++ y3387) ++ x3356.1))))
        else
          iffO (decide (((s3347.size + x3356.1.size : Nat) : Int) ≤ 9223372036854775807))
            (some (.nx (s3347 ++ x3356.1)))).bind (Sum.elim (fun s3347 =>
    if (((a0.2.length : Nat) : Int) == (0 : Int)) then
      (ref04_Itoa 4611686018427387904 a0.1).bind fun y3397 =>
      some y3397
    else
      if (decide ((0 : Int) < a0.1)) then
        iffO (decide (((s3347.size + (⟨#[43]⟩ : ByteArray).size : Nat) : Int) ≤ 9223372036854775807))
          (if (a0.1 != (0 : Int)) then
            (ref04_Itoa 4611686018427387904 a0.1).bind fun y3404 =>
            iffO (decide ((((s3347 ++ (⟨#[43]⟩ : ByteArray)).size + y3404.size : Nat) : Int) ≤ 9223372036854775807))
              (some ((s3347 ++ (⟨#[43]⟩ : ByteArray)) ++ y3404))
          else
            some (s3347 ++ (⟨#[43]⟩ : ByteArray)))
      else
        if (a0.1 != (0 : Int)) then
          (ref04_Itoa 4611686018427387904 a0.1).bind fun y3410 =>
          iffO (decide (((s3347.size + y3410.size : Nat) : Int) ≤ 9223372036854775807))
            (some (s3347 ++ y3410))
        else
          some s3347) some)
else
  some (⟨#[]⟩ : ByteArray)
set_option maxHeartbeats 2000000 in
theorem ref04_Print_ok {a0 : Int × (List (ByteArray × Int))} {r : ByteArray} (hr : ref04_Print a0 = some r) : Meets Try.prog 39 [.agg [.c (.int .i64 a0.1), .sl false 2 (a0.2.map e_api_Coef)]] (.c (.string r)) := by
  unfold ref04_Print at hr
  refine meetsV_of (X := true) Ty.mixed Try.func39 (by kernel_rfl) rfl (by kernel_rfl) (by simp) ?_; rw [Try.ntmps39, Try.results39]
  simp only [go_sem, ↓reduceIte, reduceCtorEq, nA, nB, nC, nD, nE, nF, nG, nH, iA, *]
  obtain ⟨y3238, h3239, r3240⟩ := bindS hr
  clear hr
  try dsimp only at r3240
  cases h3241 : y3238 with
  | true =>
    simp only [h3241, ↓reduceIte, Bool.false_eq_true] at r3240
    refine call_meets ((ref04_Valid_ok h3239).le ?_) (by first | (simp only [go_sem, ↓reduceIte, reduceCtorEq, nA, nB, nC, nD, nE, nF, nG, nH, iA, *] <;> rfl) | rfl) ?_
    · simp (maxDischargeDepth := 40) only [go_sem, ↓reduceIte, reduceCtorEq, nA, nB, nC, nD, nE, nF, nG, nH, iA, cast0, cast1, lA, lB, lC, lD, lE, mapV_nil, *]
    simp only [go_sem, ↓reduceIte, reduceCtorEq, nA, nB, nC, nD, nE, nF, nG, nH, iA, *]
    refine loop_for r3240 (fun k3348 s3347 => ⟨69, [(1, .ptr 0 0), (3, .c (.string s3347)), (4, .c (.int .i64 (k3348 : Int)))], [some (.var 26 [.c (.int .i64 a0.1), .sl false 2 (a0.2.map e_api_Coef)])]⟩) ?_ ?_ ?_
    · try dsimp only
      refine LeS.pick [some 0] rfl rfl ?_ ?_
      all_goals simp (maxDischargeDepth := 40) only [go_sem, ↓reduceIte, reduceCtorEq, nA, nB, nC, nD, nE, nF, nG, nH, iA, cast0, cast1, lA, lB, lC, lD, lE, mapV_nil, *]
    · intro k3348 s3347 qhc3350 h3351 h3352 h3353 h3354 hq3349 hc3350 Khc3350 hKhc3350
      try dsimp only at hq3349
      obtain ⟨x3356, h3357, r3358⟩ := bindS hq3349
      clear hq3349
      try dsimp only at r3358
      cases h3360 : (decide (x3356.2 < (0 : Int))) with
      | true =>
        simp only [h3360, ↓reduceIte, Bool.false_eq_true] at r3358
        obtain ⟨h3361, r3362⟩ := iffO_some r3358
        clear r3358
        simp only [Bool.and_eq_true, decide_eq_true_eq] at h3361
        try simp only [go_sem, ↓reduceIte, reduceCtorEq, nA, nB, nC, nD, nE, nF, nG, nH, iA] at h3361
        cases h3363 : (decide ((1 : Int) < (IntKind.i64.wrap (0 - x3356.2)))) with
        | true =>
          simp only [h3363, ↓reduceIte, Bool.false_eq_true] at r3362
          have g2 := get_map e_api_Coef h3357
          simp only [go_sem, ↓reduceIte, reduceCtorEq, nA, nB, nC, nD, nE, nF, nG, nH, iA, *]
          obtain ⟨y3364, h3365, r3366⟩ := bindS r3362
          clear r3362
          try dsimp only at r3366
          obtain ⟨h3367, r3368⟩ := iffO_some r3366
          clear r3366
          simp only [Bool.and_eq_true, decide_eq_true_eq] at h3367
          try simp only [go_sem, ↓reduceIte, reduceCtorEq, nA, nB, nC, nD, nE, nF, nG, nH, iA] at h3367
          obtain ⟨h3369, r3370⟩ := iffO_some r3368
          clear r3368
          simp only [Bool.and_eq_true, decide_eq_true_eq] at h3369
          try simp only [go_sem, ↓reduceIte, reduceCtorEq, nA, nB, nC, nD, nE, nF, nG, nH, iA] at h3369
          refine call_meets ((ref04_Itoa_ok h3365).le ?_) (by first | (simp only [go_sem, ↓reduceIte, reduceCtorEq, nA, nB, nC, nD, nE, nF, nG, nH, iA, *] <;> rfl) | rfl) ?_
          · simp (maxDischargeDepth := 40) only [go_sem, ↓reduceIte, reduceCtorEq, nA, nB, nC, nD, nE, nF, nG, nH, iA, cast0, cast1, lA, lB, lC, lD, lE, mapV_nil, *]
          simp only [go_sem, ↓reduceIte, reduceCtorEq, nA, nB, nC, nD, nE, nF, nG, nH, iA, *]
          cases r3370
          refine hKhc3350 _ _ rfl ?_
          try dsimp only
          refine LeS.pick [some 0] rfl rfl ?_ ?_
          all_goals simp (maxDischargeDepth := 40) only [go_sem, ↓reduceIte, reduceCtorEq, nA, nB, nC, nD, nE, nF, nG, nH, iA, cast0, cast1, lA, lB, lC, lD, lE, mapV_nil, *]
        | false =>
          simp only [h3363, ↓reduceIte, Bool.false_eq_true] at r3362
          obtain ⟨h3371, r3372⟩ := iffO_some r3362
          clear r3362
          simp only [Bool.and_eq_true, decide_eq_true_eq] at h3371
          try simp only [go_sem, ↓reduceIte, reduceCtorEq, nA, nB, nC, nD, nE, nF, nG, nH, iA] at h3371
          have g3 := get_map e_api_Coef h3357
          simp only [go_sem, ↓reduceIte, reduceCtorEq, nA, nB, nC, nD, nE, nF, nG, nH, iA, *]
          cases r3372
          refine hKhc3350 _ _ rfl ?_
          try dsimp only
          refine LeS.pick [some 0] rfl rfl ?_ ?_
          all_goals simp (maxDischargeDepth := 40) only [go_sem, ↓reduceIte, reduceCtorEq, nA, nB, nC, nD, nE, nF, nG, nH, iA, cast0, cast1, lA, lB, lC, lD, lE, mapV_nil, *]
      | false =>
        simp only [h3360, ↓reduceIte, Bool.false_eq_true] at r3358
        cases h3373 : (decide ((0 : Int) < (k3348 : Int))) with
        | true =>
          simp only [h3373, ↓reduceIte, Bool.false_eq_true] at r3358
          obtain ⟨h3374, r3375⟩ := iffO_some r3358
          clear r3358
          simp only [Bool.and_eq_true, decide_eq_true_eq] at h3374
          try simp only [go_sem, ↓reduceIte, reduceCtorEq, nA, nB, nC, nD, nE, nF, nG, nH, iA] at h3374
          cases h3376 : (decide ((1 : Int) < x3356.2)) with
          | true =>
            simp only [h3376, ↓reduceIte, Bool.false_eq_true] at r3375
            have g4 := get_map e_api_Coef h3357
            simp only [go_sem, ↓reduceIte, reduceCtorEq, nA, nB, nC, nD, nE, nF, nG, nH, iA, *]
            obtain ⟨y3377, h3378, r3379⟩ := bindS r3375
            clear r3375
            try dsimp only at r3379
            obtain ⟨h3380, r3381⟩ := iffO_some r3379
            clear r3379
            simp only [Bool.and_eq_true, decide_eq_true_eq] at h3380
            try simp only [go_sem, ↓reduceIte, reduceCtorEq, nA, nB, nC, nD, nE, nF, nG, nH, iA] at h3380
            obtain ⟨h3382, r3383⟩ := iffO_some r3381
            clear r3381
            simp only [Bool.and_eq_true, decide_eq_true_eq] at h3382
            try simp only [go_sem, ↓reduceIte, reduceCtorEq, nA, nB, nC, nD, nE, nF, nG, nH, iA] at h3382
            refine call_meets ((ref04_Itoa_ok h3378).le ?_) (by first | (simp only [go_sem, ↓reduceIte, reduceCtorEq, nA, nB, nC, nD, nE, nF, nG, nH, iA, *] <;> rfl) | rfl) ?_
            · simp (maxDischargeDepth := 40) only [go_sem, ↓reduceIte, reduceCtorEq, nA, nB, nC, nD, nE, nF, nG, nH, iA, cast0, cast1, lA, lB, lC, lD, lE, mapV_nil, *]
            simp only [go_sem, ↓reduceIte, reduceCtorEq, nA, nB, nC, nD, nE, nF, nG, nH, iA, *]
            cases r3383
            refine hKhc3350 _ _ rfl ?_
            try dsimp only
            refine LeS.pick [some 0] rfl rfl ?_ ?_
            all_goals simp (maxDischargeDepth := 40) only [go_sem, ↓reduceIte, reduceCtorEq, nA, nB, nC, nD, nE, nF, nG, nH, iA, cast0, cast1, lA, lB, lC, lD, lE, mapV_nil, *]
          | false =>
            simp only [h3376, ↓reduceIte, Bool.false_eq_true] at r3375
            obtain ⟨h3384, r3385⟩ := iffO_some r3375
            clear r3375
            simp only [Bool.and_eq_true, decide_eq_true_eq] at h3384
            try simp only [go_sem, ↓reduceIte, reduceCtorEq, nA, nB, nC, nD, nE, nF, nG, nH, iA] at h3384
            have g5 := get_map e_api_Coef h3357
            simp only [go_sem, ↓reduceIte, reduceCtorEq, nA, nB, nC, nD, nE, nF, nG, nH, iA, *]
            cases r3385
            refine hKhc3350 _ _ rfl ?_
            try dsimp only
            refine LeS.pick [some 0] rfl rfl ?_ ?_
            all_goals simp (maxDischargeDepth := 40) only [go_sem, ↓reduceIte, reduceCtorEq, nA, nB, nC, nD, nE, nF, nG, nH, iA, cast0, cast1, lA, lB, lC, lD, lE, mapV_nil, *]
        | false =>
          simp only [h3373, ↓reduceIte, Bool.false_eq_true] at r3358
          cases h3386 : (decide ((1 : Int) < x3356.2)) with
          | true =>
            simp only [h3386, ↓reduceIte, Bool.false_eq_true] at r3358
            have g6 := get_map e_api_Coef h3357
            simp only [go_sem, ↓reduceIte, reduceCtorEq, nA, nB, nC, nD, nE, nF, nG, nH, iA, *]
            obtain ⟨y3387, h3388, r3389⟩ := bindS r3358
            clear r3358
            try dsimp only at r3389
            obtain ⟨h3390, r3391⟩ := iffO_some r3389
            clear r3389
            simp only [Bool.and_eq_true, decide_eq_true_eq] at h3390
            try simp only [go_sem, ↓reduceIte, reduceCtorEq, nA, nB, nC, nD, nE, nF, nG, nH, iA] at h3390
            obtain ⟨h3392, r3393⟩ := iffO_some r3391
            clear r3391
            simp only [Bool.and_eq_true, decide_eq_true_eq] at h3392
            try simp only [go_sem, ↓reduceIte, reduceCtorEq, nA, nB, nC, nD, nE, nF, nG, nH, iA] at h3392
            refine call_meets ((ref04_Itoa_ok h3388).le ?_) (by first | (simp only [go_sem, ↓reduceIte, reduceCtorEq, nA, nB, nC, nD, nE, nF, nG, nH, iA, *] <;> rfl) | rfl) ?_
            · simp (maxDischargeDepth := 40) only [go_sem, ↓reduceIte, reduceCtorEq, nA, nB, nC, nD, nE, nF, nG, nH, iA, cast0, cast1, lA, lB, lC, lD, lE, mapV_nil, *]
            simp only [go_sem, ↓reduceIte, reduceCtorEq, nA, nB, nC, nD, nE, nF, nG, nH, iA, *]
            cases r3393
            refine hKhc3350 _ _ rfl ?_
            try dsimp only
            refine LeS.pick [some 0] rfl rfl ?_ ?_
            all_goals simp (maxDischargeDepth := 40) only [go_sem, ↓reduceIte, reduceCtorEq, nA, nB, nC, nD, nE, nF, nG, nH, iA, cast0, cast1, lA, lB, lC, lD, lE, mapV_nil, *]
          | false =>
            simp only [h3386, ↓reduceIte, Bool.false_eq_true] at r3358
            obtain ⟨h3394, r3395⟩ := iffO_some r3358
            clear r3358
            simp only [Bool.and_eq_true, decide_eq_true_eq] at h3394
            try simp only [go_sem, ↓reduceIte, reduceCtorEq, nA, nB, nC, nD, nE, nF, nG, nH, iA] at h3394
            have g7 := get_map e_api_Coef h3357
            simp only [go_sem, ↓reduceIte, reduceCtorEq, nA, nB, nC, nD, nE, nF, nG, nH, iA, *]
            cases r3395
            refine hKhc3350 _ _ rfl ?_
            try dsimp only
            refine LeS.pick [some 0] rfl rfl ?_ ?_
            all_goals simp (maxDischargeDepth := 40) only [go_sem, ↓reduceIte, reduceCtorEq, nA, nB, nC, nD, nE, nF, nG, nH, iA, cast0, cast1, lA, lB, lC, lD, lE, mapV_nil, *]
    · clear r3240
      intro s3347 r3240 h3351 h3355 Khc3350
      dsimp only [Sum.elim_inl] at r3240
      cases h3396 : (((a0.2.length : Nat) : Int) == (0 : Int)) with
      | true =>
        simp only [h3396, ↓reduceIte, Bool.false_eq_true] at r3240
        simp only [go_sem, ↓reduceIte, reduceCtorEq, nA, nB, nC, nD, nE, nF, nG, nH, iA, *]
        obtain ⟨y3397, h3398, r3399⟩ := bindS r3240
        clear r3240
        try dsimp only at r3399
        refine call_meets ((ref04_Itoa_ok h3398).le ?_) (by first | (simp only [go_sem, ↓reduceIte, reduceCtorEq, nA, nB, nC, nD, nE, nF, nG, nH, iA, *] <;> rfl) | rfl) ?_
        · simp (maxDischargeDepth := 40) only [go_sem, ↓reduceIte, reduceCtorEq, nA, nB, nC, nD, nE, nF, nG, nH, iA, cast0, cast1, lA, lB, lC, lD, lE, mapV_nil, *]
        simp only [go_sem, ↓reduceIte, reduceCtorEq, nA, nB, nC, nD, nE, nF, nG, nH, iA, *]
        cases r3399
        simp (maxDischargeDepth := 40) only [go_sem, ↓reduceIte, reduceCtorEq, nA, nB, nC, nD, nE, nF, nG, nH, iA, cast0, cast1, lA, lB, lC, lD, lE, mapV_nil, *]
      | false =>
        simp only [h3396, ↓reduceIte, Bool.false_eq_true] at r3240
        cases h3400 : (decide ((0 : Int) < a0.1)) with
        | true =>
          simp only [h3400, ↓reduceIte, Bool.false_eq_true] at r3240
          obtain ⟨h3401, r3402⟩ := iffO_some r3240
          clear r3240
          simp only [Bool.and_eq_true, decide_eq_true_eq] at h3401
          try simp only [go_sem, ↓reduceIte, reduceCtorEq, nA, nB, nC, nD, nE, nF, nG, nH, iA] at h3401
          cases h3403 : (a0.1 != (0 : Int)) with
          | true =>
            simp only [h3403, ↓reduceIte, Bool.false_eq_true] at r3402
            simp only [go_sem, ↓reduceIte, reduceCtorEq, nA, nB, nC, nD, nE, nF, nG, nH, iA, *]
            obtain ⟨y3404, h3405, r3406⟩ := bindS r3402
            clear r3402
            try dsimp only at r3406
            obtain ⟨h3407, r3408⟩ := iffO_some r3406
            clear r3406
            simp only [Bool.and_eq_true, decide_eq_true_eq] at h3407
            try simp only [go_sem, ↓reduceIte, reduceCtorEq, nA, nB, nC, nD, nE, nF, nG, nH, iA] at h3407
            refine call_meets ((ref04_Itoa_ok h3405).le ?_) (by first | (simp only [go_sem, ↓reduceIte, reduceCtorEq, nA, nB, nC, nD, nE, nF, nG, nH, iA, *] <;> rfl) | rfl) ?_
            · simp (maxDischargeDepth := 40) only [go_sem, ↓reduceIte, reduceCtorEq, nA, nB, nC, nD, nE, nF, nG, nH, iA, cast0, cast1, lA, lB, lC, lD, lE, mapV_nil, *]
            simp only [go_sem, ↓reduceIte, reduceCtorEq, nA, nB, nC, nD, nE, nF, nG, nH, iA, *]
            cases r3408
            simp (maxDischargeDepth := 40) only [go_sem, ↓reduceIte, reduceCtorEq, nA, nB, nC, nD, nE, nF, nG, nH, iA, cast0, cast1, lA, lB, lC, lD, lE, mapV_nil, *]
          | false =>
            simp only [h3403, ↓reduceIte, Bool.false_eq_true] at r3402
            simp only [go_sem, ↓reduceIte, reduceCtorEq, nA, nB, nC, nD, nE, nF, nG, nH, iA, *]
            cases r3402
            simp (maxDischargeDepth := 40) only [go_sem, ↓reduceIte, reduceCtorEq, nA, nB, nC, nD, nE, nF, nG, nH, iA, cast0, cast1, lA, lB, lC, lD, lE, mapV_nil, *]
        | false =>
          simp only [h3400, ↓reduceIte, Bool.false_eq_true] at r3240
          cases h3409 : (a0.1 != (0 : Int)) with
          | true =>
            simp only [h3409, ↓reduceIte, Bool.false_eq_true] at r3240
            simp only [go_sem, ↓reduceIte, reduceCtorEq, nA, nB, nC, nD, nE, nF, nG, nH, iA, *]
            obtain ⟨y3410, h3411, r3412⟩ := bindS r3240
            clear r3240
            try dsimp only at r3412
            obtain ⟨h3413, r3414⟩ := iffO_some r3412
            clear r3412
            simp only [Bool.and_eq_true, decide_eq_true_eq] at h3413
            try simp only [go_sem, ↓reduceIte, reduceCtorEq, nA, nB, nC, nD, nE, nF, nG, nH, iA] at h3413
            refine call_meets ((ref04_Itoa_ok h3411).le ?_) (by first | (simp only [go_sem, ↓reduceIte, reduceCtorEq, nA, nB, nC, nD, nE, nF, nG, nH, iA, *] <;> rfl) | rfl) ?_
            · simp (maxDischargeDepth := 40) only [go_sem, ↓reduceIte, reduceCtorEq, nA, nB, nC, nD, nE, nF, nG, nH, iA, cast0, cast1, lA, lB, lC, lD, lE, mapV_nil, *]
            simp only [go_sem, ↓reduceIte, reduceCtorEq, nA, nB, nC, nD, nE, nF, nG, nH, iA, *]
            cases r3414
            simp (maxDischargeDepth := 40) only [go_sem, ↓reduceIte, reduceCtorEq, nA, nB, nC, nD, nE, nF, nG, nH, iA, cast0, cast1, lA, lB, lC, lD, lE, mapV_nil, *]
          | false =>
            simp only [h3409, ↓reduceIte, Bool.false_eq_true] at r3240
            simp only [go_sem, ↓reduceIte, reduceCtorEq, nA, nB, nC, nD, nE, nF, nG, nH, iA, *]
            cases r3240
            simp (maxDischargeDepth := 40) only [go_sem, ↓reduceIte, reduceCtorEq, nA, nB, nC, nD, nE, nF, nG, nH, iA, cast0, cast1, lA, lB, lC, lD, lE, mapV_nil, *]
  | false =>
    simp only [h3241, ↓reduceIte, Bool.false_eq_true] at r3240
    refine call_meets ((ref04_Valid_ok h3239).le ?_) (by first | (simp only [go_sem, ↓reduceIte, reduceCtorEq, nA, nB, nC, nD, nE, nF, nG, nH, iA, *] <;> rfl) | rfl) ?_
    · simp (maxDischargeDepth := 40) only [go_sem, ↓reduceIte, reduceCtorEq, nA, nB, nC, nD, nE, nF, nG, nH, iA, cast0, cast1, lA, lB, lC, lD, lE, mapV_nil, *]
    simp only [go_sem, ↓reduceIte, reduceCtorEq, nA, nB, nC, nD, nE, nF, nG, nH, iA, *]
    cases r3240
    simp (maxDischargeDepth := 40) only [go_sem, ↓reduceIte, reduceCtorEq, nA, nB, nC, nD, nE, nF, nG, nH, iA, cast0, cast1, lA, lB, lC, lD, lE, mapV_nil, *]

def law07_awake : Option Bool :=
  (ref04_Of (-1 : Int)).bind fun y3210 =>
(ref04_Plus y3210 (⟨#[110]⟩ : ByteArray) (2 : Int)).bind fun y3213 =>
(law07_sum [(0 : Int), (1 : Int), (1 : Int)]).bind fun y3216 =>
(certificate_Cut [(true, y3213)] [(1 : Int)]).bind fun y3219 =>
(certificate_Check [(true, y3213)] (T_api_Cert.mk (2 : Int) [(1 : Int)] ((0 : Int), []) [(T_api_Cert.mk (2 : Int) [(-1 : Int), (0 : Int)] ((0 : Int), []) [y3216])])).bind fun y3222 =>
if (y3222 == (0 : Int)) then
  (law07_sum [(1 : Int)]).bind fun y3226 =>
  (certificate_Check [(true, y3213)] y3226).bind fun y3229 =>
  if (y3229 == (18 : Int)) then
    (certificate_Size 4611686018427387904 (T_api_Cert.mk (2 : Int) [(1 : Int)] ((0 : Int), []) [(T_api_Cert.mk (2 : Int) [(-1 : Int), (0 : Int)] ((0 : Int), []) [y3216])])).bind fun y3233 =>
    if (y3233 == (3 : Int)) then
      if (y3219.2 == (0 : Int)) then
        (ref04_Print y3219.1).bind fun y3415 =>
        if (eqB y3415 (⟨#[110, 45, 49]⟩ : ByteArray)) then
          (certificate_Valid [(true, y3213)]).bind fun y3419 =>
          some y3419
        else
          some false
      else
        some false
    else
      some false
  else
    some false
else
  some false
set_option maxHeartbeats 2000000 in
theorem law07_awake_ok {r : Bool} (hr : law07_awake = some r) : Meets Try.prog 10 [] (.c (.bool r)) := by
  unfold law07_awake at hr
  refine meetsV_of (X := true) Ty.mixed Try.func10 (by kernel_rfl) rfl (by kernel_rfl) (by simp) ?_; rw [Try.ntmps10, Try.results10]
  simp only [go_sem, ↓reduceIte, reduceCtorEq, nA, nB, nC, nD, nE, nF, nG, nH, iA, *]
  obtain ⟨y3210, h3211, r3212⟩ := bindS hr
  clear hr
  try dsimp only at r3212
  refine call_meets ((ref04_Of_ok h3211).le ?_) (by first | (simp only [go_sem, ↓reduceIte, reduceCtorEq, nA, nB, nC, nD, nE, nF, nG, nH, iA, *] <;> rfl) | rfl) ?_
  · simp (maxDischargeDepth := 40) only [go_sem, ↓reduceIte, reduceCtorEq, nA, nB, nC, nD, nE, nF, nG, nH, iA, cast0, cast1, lA, lB, lC, lD, lE, mapV_nil, *]
  simp only [go_sem, ↓reduceIte, reduceCtorEq, nA, nB, nC, nD, nE, nF, nG, nH, iA, *]
  obtain ⟨y3213, h3214, r3215⟩ := bindS r3212
  clear r3212
  try dsimp only at r3215
  refine call_meets ((ref04_Plus_ok h3214).le ?_) (by first | (simp only [go_sem, ↓reduceIte, reduceCtorEq, nA, nB, nC, nD, nE, nF, nG, nH, iA, *] <;> rfl) | rfl) ?_
  · simp (maxDischargeDepth := 40) only [go_sem, ↓reduceIte, reduceCtorEq, nA, nB, nC, nD, nE, nF, nG, nH, iA, cast0, cast1, lA, lB, lC, lD, lE, mapV_nil, *]
  simp only [go_sem, ↓reduceIte, reduceCtorEq, nA, nB, nC, nD, nE, nF, nG, nH, iA, *]
  obtain ⟨y3216, h3217, r3218⟩ := bindS r3215
  clear r3215
  try dsimp only at r3218
  refine call_meets ((law07_sum_ok h3217).le ?_) (by first | (simp only [go_sem, ↓reduceIte, reduceCtorEq, nA, nB, nC, nD, nE, nF, nG, nH, iA, *] <;> rfl) | rfl) ?_
  · simp (maxDischargeDepth := 40) only [go_sem, ↓reduceIte, reduceCtorEq, nA, nB, nC, nD, nE, nF, nG, nH, iA, cast0, cast1, lA, lB, lC, lD, lE, mapV_nil, *]
  simp only [go_sem, ↓reduceIte, reduceCtorEq, nA, nB, nC, nD, nE, nF, nG, nH, iA, *]
  obtain ⟨y3219, h3220, r3221⟩ := bindS r3218
  clear r3218
  try dsimp only at r3221
  refine call_meets ((certificate_Cut_ok h3220).le ?_) (by first | (simp only [go_sem, ↓reduceIte, reduceCtorEq, nA, nB, nC, nD, nE, nF, nG, nH, iA, *] <;> rfl) | rfl) ?_
  · simp (maxDischargeDepth := 40) only [go_sem, ↓reduceIte, reduceCtorEq, nA, nB, nC, nD, nE, nF, nG, nH, iA, cast0, cast1, lA, lB, lC, lD, lE, mapV_nil, *]
  simp only [go_sem, ↓reduceIte, reduceCtorEq, nA, nB, nC, nD, nE, nF, nG, nH, iA, *]
  obtain ⟨y3222, h3223, r3224⟩ := bindS r3221
  clear r3221
  try dsimp only at r3224
  cases h3225 : (y3222 == (0 : Int)) with
  | true =>
    simp only [h3225, ↓reduceIte, Bool.false_eq_true] at r3224
    refine call_meets ((certificate_Check_ok h3223).le ?_) (by first | (simp only [go_sem, ↓reduceIte, reduceCtorEq, nA, nB, nC, nD, nE, nF, nG, nH, iA, *] <;> rfl) | rfl) ?_
    · simp (maxDischargeDepth := 40) only [go_sem, ↓reduceIte, reduceCtorEq, nA, nB, nC, nD, nE, nF, nG, nH, iA, cast0, cast1, lA, lB, lC, lD, lE, mapV_nil, *]
    simp only [go_sem, ↓reduceIte, reduceCtorEq, nA, nB, nC, nD, nE, nF, nG, nH, iA, *]
    obtain ⟨y3226, h3227, r3228⟩ := bindS r3224
    clear r3224
    try dsimp only at r3228
    refine call_meets ((law07_sum_ok h3227).le ?_) (by first | (simp only [go_sem, ↓reduceIte, reduceCtorEq, nA, nB, nC, nD, nE, nF, nG, nH, iA, *] <;> rfl) | rfl) ?_
    · simp (maxDischargeDepth := 40) only [go_sem, ↓reduceIte, reduceCtorEq, nA, nB, nC, nD, nE, nF, nG, nH, iA, cast0, cast1, lA, lB, lC, lD, lE, mapV_nil, *]
    simp only [go_sem, ↓reduceIte, reduceCtorEq, nA, nB, nC, nD, nE, nF, nG, nH, iA, *]
    obtain ⟨y3229, h3230, r3231⟩ := bindS r3228
    clear r3228
    try dsimp only at r3231
    cases h3232 : (y3229 == (18 : Int)) with
    | true =>
      simp only [h3232, ↓reduceIte, Bool.false_eq_true] at r3231
      refine call_meets ((certificate_Check_ok h3230).le ?_) (by first | (simp only [go_sem, ↓reduceIte, reduceCtorEq, nA, nB, nC, nD, nE, nF, nG, nH, iA, *] <;> rfl) | rfl) ?_
      · simp (maxDischargeDepth := 40) only [go_sem, ↓reduceIte, reduceCtorEq, nA, nB, nC, nD, nE, nF, nG, nH, iA, cast0, cast1, lA, lB, lC, lD, lE, mapV_nil, *]
      simp only [go_sem, ↓reduceIte, reduceCtorEq, nA, nB, nC, nD, nE, nF, nG, nH, iA, *]
      obtain ⟨y3233, h3234, r3235⟩ := bindS r3231
      clear r3231
      try dsimp only at r3235
      cases h3236 : (y3233 == (3 : Int)) with
      | true =>
        simp only [h3236, ↓reduceIte, Bool.false_eq_true] at r3235
        cases h3237 : (y3219.2 == (0 : Int)) with
        | true =>
          simp only [h3237, ↓reduceIte, Bool.false_eq_true] at r3235
          refine call_meets ((certificate_Size_ok h3234).le ?_) (by first | (simp only [go_sem, ↓reduceIte, reduceCtorEq, nA, nB, nC, nD, nE, nF, nG, nH, iA, *] <;> rfl) | rfl) ?_
          · simp (maxDischargeDepth := 40) only [go_sem, ↓reduceIte, reduceCtorEq, nA, nB, nC, nD, nE, nF, nG, nH, iA, cast0, cast1, lA, lB, lC, lD, lE, mapV_nil, *]
          simp only [go_sem, ↓reduceIte, reduceCtorEq, nA, nB, nC, nD, nE, nF, nG, nH, iA, *]
          obtain ⟨y3415, h3416, r3417⟩ := bindS r3235
          clear r3235
          try dsimp only at r3417
          cases h3418 : (eqB y3415 (⟨#[110, 45, 49]⟩ : ByteArray)) with
          | true =>
            simp only [h3418, ↓reduceIte, Bool.false_eq_true] at r3417
            refine call_meets ((ref04_Print_ok h3416).le ?_) (by first | (simp only [go_sem, ↓reduceIte, reduceCtorEq, nA, nB, nC, nD, nE, nF, nG, nH, iA, *] <;> rfl) | rfl) ?_
            · simp (maxDischargeDepth := 40) only [go_sem, ↓reduceIte, reduceCtorEq, nA, nB, nC, nD, nE, nF, nG, nH, iA, cast0, cast1, lA, lB, lC, lD, lE, mapV_nil, *]
            simp only [go_sem, ↓reduceIte, reduceCtorEq, nA, nB, nC, nD, nE, nF, nG, nH, iA, *]
            obtain ⟨y3419, h3420, r3421⟩ := bindS r3417
            clear r3417
            try dsimp only at r3421
            refine call_meets ((certificate_Valid_ok h3420).le ?_) (by first | (simp only [go_sem, ↓reduceIte, reduceCtorEq, nA, nB, nC, nD, nE, nF, nG, nH, iA, *] <;> rfl) | rfl) ?_
            · simp (maxDischargeDepth := 40) only [go_sem, ↓reduceIte, reduceCtorEq, nA, nB, nC, nD, nE, nF, nG, nH, iA, cast0, cast1, lA, lB, lC, lD, lE, mapV_nil, *]
            simp only [go_sem, ↓reduceIte, reduceCtorEq, nA, nB, nC, nD, nE, nF, nG, nH, iA, *]
            cases r3421
            simp (maxDischargeDepth := 40) only [go_sem, ↓reduceIte, reduceCtorEq, nA, nB, nC, nD, nE, nF, nG, nH, iA, cast0, cast1, lA, lB, lC, lD, lE, mapV_nil, *]
          | false =>
            simp only [h3418, ↓reduceIte, Bool.false_eq_true] at r3417
            refine call_meets ((ref04_Print_ok h3416).le ?_) (by first | (simp only [go_sem, ↓reduceIte, reduceCtorEq, nA, nB, nC, nD, nE, nF, nG, nH, iA, *] <;> rfl) | rfl) ?_
            · simp (maxDischargeDepth := 40) only [go_sem, ↓reduceIte, reduceCtorEq, nA, nB, nC, nD, nE, nF, nG, nH, iA, cast0, cast1, lA, lB, lC, lD, lE, mapV_nil, *]
            simp only [go_sem, ↓reduceIte, reduceCtorEq, nA, nB, nC, nD, nE, nF, nG, nH, iA, *]
            cases r3417
            simp (maxDischargeDepth := 40) only [go_sem, ↓reduceIte, reduceCtorEq, nA, nB, nC, nD, nE, nF, nG, nH, iA, cast0, cast1, lA, lB, lC, lD, lE, mapV_nil, *]
        | false =>
          simp only [h3237, ↓reduceIte, Bool.false_eq_true] at r3235
          refine call_meets ((certificate_Size_ok h3234).le ?_) (by first | (simp only [go_sem, ↓reduceIte, reduceCtorEq, nA, nB, nC, nD, nE, nF, nG, nH, iA, *] <;> rfl) | rfl) ?_
          · simp (maxDischargeDepth := 40) only [go_sem, ↓reduceIte, reduceCtorEq, nA, nB, nC, nD, nE, nF, nG, nH, iA, cast0, cast1, lA, lB, lC, lD, lE, mapV_nil, *]
          simp only [go_sem, ↓reduceIte, reduceCtorEq, nA, nB, nC, nD, nE, nF, nG, nH, iA, *]
          cases r3235
          simp (maxDischargeDepth := 40) only [go_sem, ↓reduceIte, reduceCtorEq, nA, nB, nC, nD, nE, nF, nG, nH, iA, cast0, cast1, lA, lB, lC, lD, lE, mapV_nil, *]
      | false =>
        simp only [h3236, ↓reduceIte, Bool.false_eq_true] at r3235
        refine call_meets ((certificate_Size_ok h3234).le ?_) (by first | (simp only [go_sem, ↓reduceIte, reduceCtorEq, nA, nB, nC, nD, nE, nF, nG, nH, iA, *] <;> rfl) | rfl) ?_
        · simp (maxDischargeDepth := 40) only [go_sem, ↓reduceIte, reduceCtorEq, nA, nB, nC, nD, nE, nF, nG, nH, iA, cast0, cast1, lA, lB, lC, lD, lE, mapV_nil, *]
        simp only [go_sem, ↓reduceIte, reduceCtorEq, nA, nB, nC, nD, nE, nF, nG, nH, iA, *]
        cases r3235
        simp (maxDischargeDepth := 40) only [go_sem, ↓reduceIte, reduceCtorEq, nA, nB, nC, nD, nE, nF, nG, nH, iA, cast0, cast1, lA, lB, lC, lD, lE, mapV_nil, *]
    | false =>
      simp only [h3232, ↓reduceIte, Bool.false_eq_true] at r3231
      refine call_meets ((certificate_Check_ok h3230).le ?_) (by first | (simp only [go_sem, ↓reduceIte, reduceCtorEq, nA, nB, nC, nD, nE, nF, nG, nH, iA, *] <;> rfl) | rfl) ?_
      · simp (maxDischargeDepth := 40) only [go_sem, ↓reduceIte, reduceCtorEq, nA, nB, nC, nD, nE, nF, nG, nH, iA, cast0, cast1, lA, lB, lC, lD, lE, mapV_nil, *]
      simp only [go_sem, ↓reduceIte, reduceCtorEq, nA, nB, nC, nD, nE, nF, nG, nH, iA, *]
      cases r3231
      simp (maxDischargeDepth := 40) only [go_sem, ↓reduceIte, reduceCtorEq, nA, nB, nC, nD, nE, nF, nG, nH, iA, cast0, cast1, lA, lB, lC, lD, lE, mapV_nil, *]
  | false =>
    simp only [h3225, ↓reduceIte, Bool.false_eq_true] at r3224
    refine call_meets ((certificate_Check_ok h3223).le ?_) (by first | (simp only [go_sem, ↓reduceIte, reduceCtorEq, nA, nB, nC, nD, nE, nF, nG, nH, iA, *] <;> rfl) | rfl) ?_
    · simp (maxDischargeDepth := 40) only [go_sem, ↓reduceIte, reduceCtorEq, nA, nB, nC, nD, nE, nF, nG, nH, iA, cast0, cast1, lA, lB, lC, lD, lE, mapV_nil, *]
    simp only [go_sem, ↓reduceIte, reduceCtorEq, nA, nB, nC, nD, nE, nF, nG, nH, iA, *]
    cases r3224
    simp (maxDischargeDepth := 40) only [go_sem, ↓reduceIte, reduceCtorEq, nA, nB, nC, nD, nE, nF, nG, nH, iA, cast0, cast1, lA, lB, lC, lD, lE, mapV_nil, *]

def law07_small (a0 : List (Int × (List (ByteArray × Int)))) (a1 : Int) : Option Bool :=
  (ref07_Facts a0).bind fun y3485 =>
(ref07_Few y3485 a1).bind fun y3488 =>
some y3488
set_option maxHeartbeats 2000000 in
theorem law07_small_ok {a0 : List (Int × (List (ByteArray × Int)))} {a1 : Int} {r : Bool} (hr : law07_small a0 a1 = some r) : Meets Try.prog 24 [.sl false 2 (a0.map e_api_Linear), .c (.int .i64 a1)] (.c (.bool r)) := by
  unfold law07_small at hr
  refine meetsV_of (X := true) Ty.mixed Try.func24 (by kernel_rfl) rfl (by kernel_rfl) (by simp) ?_; rw [Try.ntmps24, Try.results24]
  simp only [go_sem, ↓reduceIte, reduceCtorEq, nA, nB, nC, nD, nE, nF, nG, nH, iA, *]
  obtain ⟨y3485, h3486, r3487⟩ := bindS hr
  clear hr
  try dsimp only at r3487
  refine call_meets ((ref07_Facts_ok h3486).le ?_) (by first | (simp only [go_sem, ↓reduceIte, reduceCtorEq, nA, nB, nC, nD, nE, nF, nG, nH, iA, *] <;> rfl) | rfl) ?_
  · simp (maxDischargeDepth := 40) only [go_sem, ↓reduceIte, reduceCtorEq, nA, nB, nC, nD, nE, nF, nG, nH, iA, cast0, cast1, lA, lB, lC, lD, lE, mapV_nil, *]
  simp only [go_sem, ↓reduceIte, reduceCtorEq, nA, nB, nC, nD, nE, nF, nG, nH, iA, *]
  obtain ⟨y3488, h3489, r3490⟩ := bindS r3487
  clear r3487
  try dsimp only at r3490
  refine call_meets ((ref07_Few_ok h3489).le ?_) (by first | (simp only [go_sem, ↓reduceIte, reduceCtorEq, nA, nB, nC, nD, nE, nF, nG, nH, iA, *] <;> rfl) | rfl) ?_
  · simp (maxDischargeDepth := 40) only [go_sem, ↓reduceIte, reduceCtorEq, nA, nB, nC, nD, nE, nF, nG, nH, iA, cast0, cast1, lA, lB, lC, lD, lE, mapV_nil, *]
  simp only [go_sem, ↓reduceIte, reduceCtorEq, nA, nB, nC, nD, nE, nF, nG, nH, iA, *]
  cases r3490
  simp (maxDischargeDepth := 40) only [go_sem, ↓reduceIte, reduceCtorEq, nA, nB, nC, nD, nE, nF, nG, nH, iA, cast0, cast1, lA, lB, lC, lD, lE, mapV_nil, *]

def law07_CertificateProves (a0 : List (Int × (List (ByteArray × Int)))) (a1 : Int × (List (ByteArray × Int))) (a2 : T_api_Cert) : Option Bool :=
  (law07_awake).bind fun y3481 =>
if y3481 then
  (law07_small a0 (8 : Int)).bind fun y3491 =>
  if y3491 then
    (ref04_Few a1 (8 : Int)).bind fun y3495 =>
    if y3495 then
      (ref07_Small 4611686018427387904 a2 (12 : Int)).bind fun y3499 =>
      if y3499 then
        (certificate_Negate a1).bind fun y3503 =>
        (ref07_Negate a1).bind fun y3506 =>
        (ref04_Equal y3503.1 y3506.1).bind fun y3509 =>
        if y3509 then
          if (y3503.2 == y3506.2) then
            (certificate_Proves a0 a1 a2).bind fun y3514 =>
            (ref07_Proves a0 a1 a2).bind fun y3517 =>
            some (y3514 == y3517)
          else
            some false
        else
          some false
      else
        some true
    else
      some true
  else
    some true
else
  some false
set_option maxHeartbeats 2000000 in
theorem law07_CertificateProves_ok {a0 : List (Int × (List (ByteArray × Int)))} {a1 : Int × (List (ByteArray × Int))} {a2 : T_api_Cert} {r : Bool} (hr : law07_CertificateProves a0 a1 a2 = some r) : Meets Try.prog 5 [.sl false 2 (a0.map e_api_Linear), .agg [.c (.int .i64 a1.1), .sl false 2 (a1.2.map e_api_Coef)], .agg [.c (.int .i64 a2.f0), .sl false 1 (a2.f1.map e_int), .c (.int .i64 a2.f2.1), .sl false 2 (a2.f2.2.map e_api_Coef), .sl false 5 (a2.f3.map e_api_Cert)]] (.c (.bool r)) := by
  unfold law07_CertificateProves at hr
  refine meetsV_of (X := true) Ty.mixed Try.func5 (by kernel_rfl) rfl (by kernel_rfl) (by simp) ?_; rw [Try.ntmps5, Try.results5]
  simp only [go_sem, ↓reduceIte, reduceCtorEq, nA, nB, nC, nD, nE, nF, nG, nH, iA, *]
  obtain ⟨y3481, h3482, r3483⟩ := bindS hr
  clear hr
  try dsimp only at r3483
  cases h3484 : y3481 with
  | true =>
    simp only [h3484, ↓reduceIte, Bool.false_eq_true] at r3483
    refine call_meets ((law07_awake_ok h3482).le ?_) (by first | (simp only [go_sem, ↓reduceIte, reduceCtorEq, nA, nB, nC, nD, nE, nF, nG, nH, iA, *] <;> rfl) | rfl) ?_
    · simp (maxDischargeDepth := 40) only [go_sem, ↓reduceIte, reduceCtorEq, nA, nB, nC, nD, nE, nF, nG, nH, iA, cast0, cast1, lA, lB, lC, lD, lE, mapV_nil, *]
    simp only [go_sem, ↓reduceIte, reduceCtorEq, nA, nB, nC, nD, nE, nF, nG, nH, iA, *]
    obtain ⟨y3491, h3492, r3493⟩ := bindS r3483
    clear r3483
    try dsimp only at r3493
    cases h3494 : y3491 with
    | true =>
      simp only [h3494, ↓reduceIte, Bool.false_eq_true] at r3493
      refine call_meets ((law07_small_ok h3492).le ?_) (by first | (simp only [go_sem, ↓reduceIte, reduceCtorEq, nA, nB, nC, nD, nE, nF, nG, nH, iA, *] <;> rfl) | rfl) ?_
      · simp (maxDischargeDepth := 40) only [go_sem, ↓reduceIte, reduceCtorEq, nA, nB, nC, nD, nE, nF, nG, nH, iA, cast0, cast1, lA, lB, lC, lD, lE, mapV_nil, *]
      simp only [go_sem, ↓reduceIte, reduceCtorEq, nA, nB, nC, nD, nE, nF, nG, nH, iA, *]
      obtain ⟨y3495, h3496, r3497⟩ := bindS r3493
      clear r3493
      try dsimp only at r3497
      cases h3498 : y3495 with
      | true =>
        simp only [h3498, ↓reduceIte, Bool.false_eq_true] at r3497
        refine call_meets ((ref04_Few_ok h3496).le ?_) (by first | (simp only [go_sem, ↓reduceIte, reduceCtorEq, nA, nB, nC, nD, nE, nF, nG, nH, iA, *] <;> rfl) | rfl) ?_
        · simp (maxDischargeDepth := 40) only [go_sem, ↓reduceIte, reduceCtorEq, nA, nB, nC, nD, nE, nF, nG, nH, iA, cast0, cast1, lA, lB, lC, lD, lE, mapV_nil, *]
        simp only [go_sem, ↓reduceIte, reduceCtorEq, nA, nB, nC, nD, nE, nF, nG, nH, iA, *]
        obtain ⟨y3499, h3500, r3501⟩ := bindS r3497
        clear r3497
        try dsimp only at r3501
        cases h3502 : y3499 with
        | true =>
          simp only [h3502, ↓reduceIte, Bool.false_eq_true] at r3501
          refine call_meets ((ref07_Small_ok h3500).le ?_) (by first | (simp only [go_sem, ↓reduceIte, reduceCtorEq, nA, nB, nC, nD, nE, nF, nG, nH, iA, *] <;> rfl) | rfl) ?_
          · simp (maxDischargeDepth := 40) only [go_sem, ↓reduceIte, reduceCtorEq, nA, nB, nC, nD, nE, nF, nG, nH, iA, cast0, cast1, lA, lB, lC, lD, lE, mapV_nil, *]
          simp only [go_sem, ↓reduceIte, reduceCtorEq, nA, nB, nC, nD, nE, nF, nG, nH, iA, *]
          obtain ⟨y3503, h3504, r3505⟩ := bindS r3501
          clear r3501
          try dsimp only at r3505
          refine call_meets ((certificate_Negate_ok h3504).le ?_) (by first | (simp only [go_sem, ↓reduceIte, reduceCtorEq, nA, nB, nC, nD, nE, nF, nG, nH, iA, *] <;> rfl) | rfl) ?_
          · simp (maxDischargeDepth := 40) only [go_sem, ↓reduceIte, reduceCtorEq, nA, nB, nC, nD, nE, nF, nG, nH, iA, cast0, cast1, lA, lB, lC, lD, lE, mapV_nil, *]
          simp only [go_sem, ↓reduceIte, reduceCtorEq, nA, nB, nC, nD, nE, nF, nG, nH, iA, *]
          obtain ⟨y3506, h3507, r3508⟩ := bindS r3505
          clear r3505
          try dsimp only at r3508
          refine call_meets ((ref07_Negate_ok h3507).le ?_) (by first | (simp only [go_sem, ↓reduceIte, reduceCtorEq, nA, nB, nC, nD, nE, nF, nG, nH, iA, *] <;> rfl) | rfl) ?_
          · simp (maxDischargeDepth := 40) only [go_sem, ↓reduceIte, reduceCtorEq, nA, nB, nC, nD, nE, nF, nG, nH, iA, cast0, cast1, lA, lB, lC, lD, lE, mapV_nil, *]
          simp only [go_sem, ↓reduceIte, reduceCtorEq, nA, nB, nC, nD, nE, nF, nG, nH, iA, *]
          refine drawS_tail (by kernel_rfl) ?_
          simp only [go_sem, ↓reduceIte, reduceCtorEq, nA, nB, nC, nD, nE, nF, nG, nH, iA, *]
          obtain ⟨y3509, h3510, r3511⟩ := bindS r3508
          clear r3508
          try dsimp only at r3511
          cases h3512 : y3509 with
          | true =>
            simp only [h3512, ↓reduceIte, Bool.false_eq_true] at r3511
            cases h3513 : (y3503.2 == y3506.2) with
            | true =>
              simp only [h3513, ↓reduceIte, Bool.false_eq_true] at r3511
              refine calld_meets ((ref04_Equal_ok h3510).le ?_) (by first | (simp only [go_sem, ↓reduceIte, reduceCtorEq, nA, nB, nC, nD, nE, nF, nG, nH, iA, *] <;> rfl) | rfl) (by simp only [go_sem, ↓reduceIte, reduceCtorEq, nA, nB, nC, nD, nE, nF, nG, nH, iA, *]) ?_
              · simp (maxDischargeDepth := 40) only [go_sem, ↓reduceIte, reduceCtorEq, nA, nB, nC, nD, nE, nF, nG, nH, iA, cast0, cast1, lA, lB, lC, lD, lE, mapV_nil, *]
              simp only [go_sem, ↓reduceIte, reduceCtorEq, nA, nB, nC, nD, nE, nF, nG, nH, iA, *]
              obtain ⟨y3514, h3515, r3516⟩ := bindS r3511
              clear r3511
              try dsimp only at r3516
              refine calld_meets ((certificate_Proves_ok h3515).le ?_) (by first | (simp only [go_sem, ↓reduceIte, reduceCtorEq, nA, nB, nC, nD, nE, nF, nG, nH, iA, *] <;> rfl) | rfl) (by simp only [go_sem, ↓reduceIte, reduceCtorEq, nA, nB, nC, nD, nE, nF, nG, nH, iA, *]) ?_
              · simp (maxDischargeDepth := 40) only [go_sem, ↓reduceIte, reduceCtorEq, nA, nB, nC, nD, nE, nF, nG, nH, iA, cast0, cast1, lA, lB, lC, lD, lE, mapV_nil, *]
              simp only [go_sem, ↓reduceIte, reduceCtorEq, nA, nB, nC, nD, nE, nF, nG, nH, iA, *]
              obtain ⟨y3517, h3518, r3519⟩ := bindS r3516
              clear r3516
              try dsimp only at r3519
              refine calld_meets ((ref07_Proves_ok h3518).le ?_) (by first | (simp only [go_sem, ↓reduceIte, reduceCtorEq, nA, nB, nC, nD, nE, nF, nG, nH, iA, *] <;> rfl) | rfl) (by simp only [go_sem, ↓reduceIte, reduceCtorEq, nA, nB, nC, nD, nE, nF, nG, nH, iA, *]) ?_
              · simp (maxDischargeDepth := 40) only [go_sem, ↓reduceIte, reduceCtorEq, nA, nB, nC, nD, nE, nF, nG, nH, iA, cast0, cast1, lA, lB, lC, lD, lE, mapV_nil, *]
              simp only [go_sem, ↓reduceIte, reduceCtorEq, nA, nB, nC, nD, nE, nF, nG, nH, iA, *]
              cases r3519
              simp (maxDischargeDepth := 40) only [go_sem, ↓reduceIte, reduceCtorEq, nA, nB, nC, nD, nE, nF, nG, nH, iA, cast0, cast1, lA, lB, lC, lD, lE, mapV_nil, *]
            | false =>
              simp only [h3513, ↓reduceIte, Bool.false_eq_true] at r3511
              refine calld_meets ((ref04_Equal_ok h3510).le ?_) (by first | (simp only [go_sem, ↓reduceIte, reduceCtorEq, nA, nB, nC, nD, nE, nF, nG, nH, iA, *] <;> rfl) | rfl) (by simp only [go_sem, ↓reduceIte, reduceCtorEq, nA, nB, nC, nD, nE, nF, nG, nH, iA, *]) ?_
              · simp (maxDischargeDepth := 40) only [go_sem, ↓reduceIte, reduceCtorEq, nA, nB, nC, nD, nE, nF, nG, nH, iA, cast0, cast1, lA, lB, lC, lD, lE, mapV_nil, *]
              simp only [go_sem, ↓reduceIte, reduceCtorEq, nA, nB, nC, nD, nE, nF, nG, nH, iA, *]
              cases r3511
              simp (maxDischargeDepth := 40) only [go_sem, ↓reduceIte, reduceCtorEq, nA, nB, nC, nD, nE, nF, nG, nH, iA, cast0, cast1, lA, lB, lC, lD, lE, mapV_nil, *]
          | false =>
            simp only [h3512, ↓reduceIte, Bool.false_eq_true] at r3511
            refine calld_meets ((ref04_Equal_ok h3510).le ?_) (by first | (simp only [go_sem, ↓reduceIte, reduceCtorEq, nA, nB, nC, nD, nE, nF, nG, nH, iA, *] <;> rfl) | rfl) (by simp only [go_sem, ↓reduceIte, reduceCtorEq, nA, nB, nC, nD, nE, nF, nG, nH, iA, *]) ?_
            · simp (maxDischargeDepth := 40) only [go_sem, ↓reduceIte, reduceCtorEq, nA, nB, nC, nD, nE, nF, nG, nH, iA, cast0, cast1, lA, lB, lC, lD, lE, mapV_nil, *]
            simp only [go_sem, ↓reduceIte, reduceCtorEq, nA, nB, nC, nD, nE, nF, nG, nH, iA, *]
            cases r3511
            simp (maxDischargeDepth := 40) only [go_sem, ↓reduceIte, reduceCtorEq, nA, nB, nC, nD, nE, nF, nG, nH, iA, cast0, cast1, lA, lB, lC, lD, lE, mapV_nil, *]
        | false =>
          simp only [h3502, ↓reduceIte, Bool.false_eq_true] at r3501
          refine call_meets ((ref07_Small_ok h3500).le ?_) (by first | (simp only [go_sem, ↓reduceIte, reduceCtorEq, nA, nB, nC, nD, nE, nF, nG, nH, iA, *] <;> rfl) | rfl) ?_
          · simp (maxDischargeDepth := 40) only [go_sem, ↓reduceIte, reduceCtorEq, nA, nB, nC, nD, nE, nF, nG, nH, iA, cast0, cast1, lA, lB, lC, lD, lE, mapV_nil, *]
          simp only [go_sem, ↓reduceIte, reduceCtorEq, nA, nB, nC, nD, nE, nF, nG, nH, iA, *]
          cases r3501
          simp (maxDischargeDepth := 40) only [go_sem, ↓reduceIte, reduceCtorEq, nA, nB, nC, nD, nE, nF, nG, nH, iA, cast0, cast1, lA, lB, lC, lD, lE, mapV_nil, *]
      | false =>
        simp only [h3498, ↓reduceIte, Bool.false_eq_true] at r3497
        refine call_meets ((ref04_Few_ok h3496).le ?_) (by first | (simp only [go_sem, ↓reduceIte, reduceCtorEq, nA, nB, nC, nD, nE, nF, nG, nH, iA, *] <;> rfl) | rfl) ?_
        · simp (maxDischargeDepth := 40) only [go_sem, ↓reduceIte, reduceCtorEq, nA, nB, nC, nD, nE, nF, nG, nH, iA, cast0, cast1, lA, lB, lC, lD, lE, mapV_nil, *]
        simp only [go_sem, ↓reduceIte, reduceCtorEq, nA, nB, nC, nD, nE, nF, nG, nH, iA, *]
        cases r3497
        simp (maxDischargeDepth := 40) only [go_sem, ↓reduceIte, reduceCtorEq, nA, nB, nC, nD, nE, nF, nG, nH, iA, cast0, cast1, lA, lB, lC, lD, lE, mapV_nil, *]
    | false =>
      simp only [h3494, ↓reduceIte, Bool.false_eq_true] at r3493
      refine call_meets ((law07_small_ok h3492).le ?_) (by first | (simp only [go_sem, ↓reduceIte, reduceCtorEq, nA, nB, nC, nD, nE, nF, nG, nH, iA, *] <;> rfl) | rfl) ?_
      · simp (maxDischargeDepth := 40) only [go_sem, ↓reduceIte, reduceCtorEq, nA, nB, nC, nD, nE, nF, nG, nH, iA, cast0, cast1, lA, lB, lC, lD, lE, mapV_nil, *]
      simp only [go_sem, ↓reduceIte, reduceCtorEq, nA, nB, nC, nD, nE, nF, nG, nH, iA, *]
      cases r3493
      simp (maxDischargeDepth := 40) only [go_sem, ↓reduceIte, reduceCtorEq, nA, nB, nC, nD, nE, nF, nG, nH, iA, cast0, cast1, lA, lB, lC, lD, lE, mapV_nil, *]
  | false =>
    simp only [h3484, ↓reduceIte, Bool.false_eq_true] at r3483
    refine call_meets ((law07_awake_ok h3482).le ?_) (by first | (simp only [go_sem, ↓reduceIte, reduceCtorEq, nA, nB, nC, nD, nE, nF, nG, nH, iA, *] <;> rfl) | rfl) ?_
    · simp (maxDischargeDepth := 40) only [go_sem, ↓reduceIte, reduceCtorEq, nA, nB, nC, nD, nE, nF, nG, nH, iA, cast0, cast1, lA, lB, lC, lD, lE, mapV_nil, *]
    simp only [go_sem, ↓reduceIte, reduceCtorEq, nA, nB, nC, nD, nE, nF, nG, nH, iA, *]
    cases r3483
    simp (maxDischargeDepth := 40) only [go_sem, ↓reduceIte, reduceCtorEq, nA, nB, nC, nD, nE, nF, nG, nH, iA, cast0, cast1, lA, lB, lC, lD, lE, mapV_nil, *]

end Go.Proofs.Ytgjamefpphhobaa.D7L
-- HS
