/- Structure: the names and ranks of the reference. -/
import Derived.Test.YtbmmemglkjeogaaS14
namespace Go.Proofs.Ytbmmemglkjeogaa.S29
open Go Go.Proofs.Ytbmmemglkjeogaa.Eng Go.Proofs.Ytbmmemglkjeogaa Go.RowKit Go.Proofs.Ytbmmemglkjeogaa.A1 Go.Proofs.Ytbmmemglkjeogaa.A2 Go.Proofs.Ytbmmemglkjeogaa.A3 Go.Proofs.Ytbmmemglkjeogaa.A4 Go.Proofs.Ytbmmemglkjeogaa.A5 Go.Proofs.Ytbmmemglkjeogaa.S1 Go.Proofs.Ytbmmemglkjeogaa.S2 Go.Proofs.Ytbmmemglkjeogaa.S3 Go.Proofs.Ytbmmemglkjeogaa.S4 Go.Proofs.Ytbmmemglkjeogaa.S5 Go.Proofs.Ytbmmemglkjeogaa.S6 Go.Proofs.Ytbmmemglkjeogaa.S7 Go.Proofs.Ytbmmemglkjeogaa.S8 Go.Proofs.Ytbmmemglkjeogaa.S9 Go.Proofs.Ytbmmemglkjeogaa.S13 Go.Proofs.Ytbmmemglkjeogaa.S14
open Bool renaming false_eq_true → ycN, and_self → ycT, true_and → ycY, and_true → ydG
open List renaming take_succ_cons → ycO, set_cons_zero → ycQ, length_cons → ycS, length_nil → ycU, nil_append → ycV, range_succ → ycW, range_zero → ycX, getElem?_cons_zero → yda, drop_zero → ydb, map_cons → ydc, all_cons → ydd, take_nil → yde, map_nil → ydf, all_nil → ydg, drop_succ_cons → ydJ, set_cons_succ → ydM, cons_append → ydP, take_zero → ydT
open Option renaming isSome_some → ycP, map_some → ycR
open Nat renaming zero_add → ycZ, le_refl → ydk
open Go.Proofs.Ytbmmemglkjeogaa.Eng renaming awpOps_nil → ydh, awpOps_one → ydi, consO_some → ydj, awp_block → ydl, toDL_cons → ydm, awpOp_is → ydn, resA_nil → ydo, resA_tmp → ydp, awp_cond → ydq, toDL_nil → ydr, isDL_cons → yds, awp_reg → ydt, awp_seq → ydu, awp_ret → ydv, putK_is → ydw, slot_is → ydx, retA_is → ydy, bsEnd_is → ydz, isDL_nil → ydA, toD_tup → ydB, condA_f → ydC, condA_t → ydD, updK_is → ydE, seqQ_n → ydF, oneA_2 → ydH, awp_skip → ydI, put_s → ydK, blkQ_n → ydL, toD_c → ydN, elO_s → ydO, upd_s → ydQ, toD_nils → ydR, isD_c → ydS, toD_own → ydU, seqQ_r → ydV
set_option linter.unusedSimpArgs false
set_option linter.unusedVariables false
set_option linter.unusedSectionVars false
set_option maxRecDepth 100000

theorem rks_op {e : ByteArray} {o : Op13} {n : Int} (ho : opOf e = some o) (h12 : (ix o == 12) = false) : rksE e n = if (n != ((rk o).length : Int)) = true then ([], false) else (rk o, true) := by
  unfold rksE
  rw [show is_pack e = (ix o == 12) from op_is ho .pack, h12, ho]
  simp only [Bool.false_and,ycN,if_false,h12,Bool.false_or]

set_option maxHeartbeats 4000000 in
theorem refRanks_ (e : ByteArray) (n : Int) (h0 : 0 ≤ n) (h1 : n ≤ 4096) : Meets Try.prog 18 [S e, I n] (rkT (rksE e n)) := by
  cases ho : opOf e with
  | none =>
    have T := op_no ho
    have hr : rksE e n = ([], false) := by
      unfold rksE
      rw [show is_pack e = false from T .pack, ho]
      simp
    rw [hr]
    refine Meets.weak (r0 := .tup [.nils, B false]) ?_ rk_nil
    have t0 : is_iota e = false := T .iota
    have t1 : is_fill e = false := T .fill
    have t2 : is_take e = false := T .take
    have t3 : is_drop e = false := T .drop
    have t4 : is_reverse e = false := T .reverse
    have t5 : is_append e = false := T .append
    have t6 : is_transpose e = false := T .transpose
    have t7 : is_diagonal e = false := T .diagonal
    have t8 : is_windows e = false := T .windows
    have t9 : is_chunk e = false := T .chunk
    have t10 : is_index e = false := T .index
    have t11 : is_update e = false := T .update
    have t12 : is_pack e = false := T .pack
    refine meets_of (X := false) Ty.mixed Try.func18 (by kernel_rfl) rfl (by kernel_rfl) (by simp) ?_; rw [Try.ntmps18, Try.results18]
    simp only [ydt,ydu,ydq,ydl,ydv,ydF,ydV,blkQ_r,ydh,ydi,ydn,ydw,ydK,ydx,ydy,pureOp,apureO,aev,cv,cvc,binK,ydC,ydN,ydR,ydB,ydj,ydr,ydm,notExit,ydo,ydp,ydH,argT,↓reduceIte,ycR,ycT,and_self,reduceCtorEq,Nat.reduceEqDiff,ycZ,t0,t1,t2,t3,t4,t5,t6,t7,t8,t9,t10,t11,t12]
  | some o =>
    have T := op_is ho
    cases o
    case iota =>
      have t0 : is_iota e = true := T .iota
      have t1 : is_fill e = false := T .fill
      have t2 : is_take e = false := T .take
      have t3 : is_drop e = false := T .drop
      have t4 : is_reverse e = false := T .reverse
      have t5 : is_append e = false := T .append
      have t6 : is_transpose e = false := T .transpose
      have t7 : is_diagonal e = false := T .diagonal
      have t8 : is_windows e = false := T .windows
      have t9 : is_chunk e = false := T .chunk
      have t10 : is_index e = false := T .index
      have t11 : is_update e = false := T .update
      have t12 : is_pack e = false := T .pack
      rw [rks_op ho rfl]
      cases hn : (n != (((rk .iota).length : Nat) : Int)) with
      | true =>
        rw [if_pos rfl]
        refine Meets.weak (r0 := .tup [.nils, B false]) ?_ rk_nil
        refine meets_of (X := false) Ty.mixed Try.func18 (by kernel_rfl) rfl (by kernel_rfl) (by simp) ?_; rw [Try.ntmps18, Try.results18]
        simp only [ydI,ydt,ydu,ydq,ydl,ydv,ydF,ydV,ydL,ydh,ydi,ydn,ydw,ydK,ydx,ydy,pureOp,apureO,aev,cv,cvc,binK,ydO,lenA,lenK,ydD,ydN,ydR,ydB,ydj,ydr,ydm,notExit,ydo,ydp,ydH,argT,↓reduceIte,ycR,ydG,ycY,ycT,Bool.not_false,true_and,and_true,and_self,reduceCtorEq,Nat.reduceEqDiff,ycZ,ycP,Ty.td22,t0,t1,t2,t3,t4,t5,t6,t7,t8,t9,t10,t11,t12,show (((0 : Nat) : Int) != n) = true from bne_iff_ne.2 (fun h => bne_iff_ne.1 hn h.symm),show ((0 : Int) != n) = !(n == 0) by rw [bne, Bool.beq_comm],show (n == 0) = false from beq_false_of_ne (fun h => bne_iff_ne.1 hn (by rw [h]; rfl))]
      | false =>
        rw [if_neg (by simp)]
        refine Meets.weak (r0 := .tup [.nils, B true]) ?_ rk_nil
        refine meets_of (X := false) Ty.mixed Try.func18 (by kernel_rfl) rfl (by kernel_rfl) (by simp) ?_; rw [Try.ntmps18, Try.results18]
        simp only [ydI,ydt,ydu,ydq,ydl,ydv,ydF,ydL,ydh,ydi,ydn,ydw,ydK,ydx,ydy,pureOp,apureO,aev,cv,cvc,binK,ydO,lenA,lenK,ydD,ydC,ydN,ydR,ydB,ydj,ydr,ydm,notExit,ydo,ydp,ydH,argT,↓reduceIte,ycR,ydG,ycY,ycT,true_and,and_true,and_self,reduceCtorEq,Nat.reduceEqDiff,ycZ,ycP,Ty.td22,t0,t1,t2,t3,t4,t5,t6,t7,t8,t9,t10,t11,t12,show (((0 : Nat) : Int) != n) = false by rw [bne_eq_false_iff_eq] at hn ⊢; exact hn.symm,show ((0 : Int) != n) = false by rw [bne_eq_false_iff_eq] at hn ⊢; exact hn.symm]
        try rfl
    case fill =>
      have t0 : is_iota e = false := T .iota
      have t1 : is_fill e = true := T .fill
      have t2 : is_take e = false := T .take
      have t3 : is_drop e = false := T .drop
      have t4 : is_reverse e = false := T .reverse
      have t5 : is_append e = false := T .append
      have t6 : is_transpose e = false := T .transpose
      have t7 : is_diagonal e = false := T .diagonal
      have t8 : is_windows e = false := T .windows
      have t9 : is_chunk e = false := T .chunk
      have t10 : is_index e = false := T .index
      have t11 : is_update e = false := T .update
      have t12 : is_pack e = false := T .pack
      rw [rks_op ho rfl]
      cases hn : (n != (((rk .fill).length : Nat) : Int)) with
      | true =>
        rw [if_pos rfl]
        refine Meets.weak (r0 := .tup [.nils, B false]) ?_ rk_nil
        refine meets_of (X := false) Ty.mixed Try.func18 (by kernel_rfl) rfl (by kernel_rfl) (by simp) ?_; rw [Try.ntmps18, Try.results18]
        simp only [ydt,ydu,ydq,ydl,ydv,ydF,ydV,ydL,ydh,ydi,ydn,isCallV,ydw,ydE,ydK,ydQ,ydx,slot.eq_1,ydy,pureOp,apureO,astepO,ydz,killT,aev,cv,cvc,binK,ydO,lenA,lenK,cellsA,cellOk,setAll,fillA,ydD,ydC,chunk,ydS,ydA,yds,ydN,ydR,ydB,ydj,ydr,ydm,notExit,ydo,ydp,ydH,argT,ycN,↓reduceIte,ycS,ycU,ydc,ydf,ycV,ycQ,ycR,ycO,ydb,ydd,ydg,ydG,ycY,ycT,Value.oneCell',true_and,and_true,and_self,reduceCtorEq,Nat.reduceMul,Nat.reduceLT,Nat.reduceLeDiff,Nat.reduceEqDiff,Nat.reduceMod,ycZ,ycW,ycX,ycP,ydk,yde,Ty.td3,Ty.td22,t0,t1,t2,t3,t4,t5,t6,t7,t8,t9,t10,t11,t12,show (((1 : Nat) : Int) != n) = true from bne_iff_ne.2 (fun h => bne_iff_ne.1 hn h.symm),show ((0 : Int) != n) = !(n == 0) by rw [bne, Bool.beq_comm]]
      | false =>
        rw [if_neg (by simp)]
        refine meets_of (X := false) Ty.mixed Try.func18 (by kernel_rfl) rfl (by kernel_rfl) (by simp) ?_; rw [Try.ntmps18, Try.results18]
        simp only [ydI,ydt,ydu,ydq,ydl,ydv,ydF,ydL,ydh,ydi,ydn,isCallV,ydw,ydE,ydK,ydQ,ydx,slot.eq_1,ydy,pureOp,apureO,astepO,ydz,killT,aev,cv,cvc,binK,ydO,lenA,lenK,cellsA,cellOk,setAll,fillA,ydD,ydC,elemsA,chunk,ydS,ydA,yds,ydN,ydB,ydU,ydj,ydr,ydm,notExit,ydo,ydp,ydH,argT,ycN,↓reduceIte,yda,ycS,ycU,ydc,ydf,ycV,ycQ,ycR,ycO,ydb,ydd,ydg,ycY,ycT,Value.oneCell',true_and,and_self,reduceCtorEq,Nat.reduceMul,Nat.reduceLT,Nat.reduceLeDiff,Nat.reduceEqDiff,Nat.reduceMod,ycZ,ycW,ycX,ycP,ydk,yde,Ty.td3,Ty.td22,t0,t1,t2,t3,t4,t5,t6,t7,t8,t9,t10,t11,t12,show (((1 : Nat) : Int) != n) = false by rw [bne_eq_false_iff_eq] at hn ⊢; exact hn.symm]
        try rfl
    case take =>
      have t0 : is_iota e = false := T .iota
      have t1 : is_fill e = false := T .fill
      have t2 : is_take e = true := T .take
      have t3 : is_drop e = false := T .drop
      have t4 : is_reverse e = false := T .reverse
      have t5 : is_append e = false := T .append
      have t6 : is_transpose e = false := T .transpose
      have t7 : is_diagonal e = false := T .diagonal
      have t8 : is_windows e = false := T .windows
      have t9 : is_chunk e = false := T .chunk
      have t10 : is_index e = false := T .index
      have t11 : is_update e = false := T .update
      have t12 : is_pack e = false := T .pack
      rw [rks_op ho rfl]
      cases hn : (n != (((rk .take).length : Nat) : Int)) with
      | true =>
        rw [if_pos rfl]
        refine Meets.weak (r0 := .tup [.nils, B false]) ?_ rk_nil
        refine meets_of (X := false) Ty.mixed Try.func18 (by kernel_rfl) rfl (by kernel_rfl) (by simp) ?_; rw [Try.ntmps18, Try.results18]
        simp only [ydI,ydt,ydu,ydq,ydl,ydv,ydF,ydV,ydL,ydh,ydi,ydn,isCallV,ydw,ydE,ydK,ydQ,ydx,slot.eq_1,ydy,pureOp,apureO,astepO,ydz,killT,aev,cv,cvc,binK,ydO,lenA,lenK,cellsA,cellOk,setAll,fillA,ydD,ydC,chunk,ydS,ydA,yds,ydN,ydR,ydB,ydj,ydr,ydm,notExit,ydo,ydp,ydH,argT,ycN,↓reduceIte,ycS,ycU,ydc,ydf,ycV,ycQ,ycR,ycO,ydb,ydd,ydg,ydG,ycY,ycT,Value.oneCell',true_and,and_true,and_self,reduceCtorEq,Nat.reduceMul,Nat.reduceLT,Nat.reduceLeDiff,Nat.reduceEqDiff,Nat.reduceMod,ycZ,ycW,ycX,ycP,ydk,yde,Ty.td3,Ty.td22,t0,t1,t2,t3,t4,t5,t6,t7,t8,t9,t10,t11,t12,show (((1 : Nat) : Int) != n) = true from bne_iff_ne.2 (fun h => bne_iff_ne.1 hn h.symm),show ((0 : Int) != n) = !(n == 0) by rw [bne, Bool.beq_comm]]
      | false =>
        rw [if_neg (by simp)]
        refine meets_of (X := false) Ty.mixed Try.func18 (by kernel_rfl) rfl (by kernel_rfl) (by simp) ?_; rw [Try.ntmps18, Try.results18]
        simp only [ydI,ydt,ydu,ydq,ydl,ydv,ydF,ydL,ydh,ydi,ydn,isCallV,ydw,ydE,ydK,ydQ,ydx,slot.eq_1,ydy,pureOp,apureO,astepO,ydz,killT,aev,cv,cvc,binK,ydO,lenA,lenK,cellsA,cellOk,setAll,fillA,ydD,ydC,elemsA,chunk,ydS,ydA,yds,ydN,ydB,ydU,ydj,ydr,ydm,notExit,ydo,ydp,ydH,argT,ycN,↓reduceIte,yda,ycS,ycU,ydc,ydf,ycV,ycQ,ycR,ycO,ydb,ydd,ydg,ycY,ycT,Value.oneCell',true_and,and_self,reduceCtorEq,Nat.reduceMul,Nat.reduceLT,Nat.reduceLeDiff,Nat.reduceEqDiff,Nat.reduceMod,ycZ,ycW,ycX,ycP,ydk,yde,Ty.td3,Ty.td22,t0,t1,t2,t3,t4,t5,t6,t7,t8,t9,t10,t11,t12,show (((1 : Nat) : Int) != n) = false by rw [bne_eq_false_iff_eq] at hn ⊢; exact hn.symm]
        try rfl
    case drop =>
      have t0 : is_iota e = false := T .iota
      have t1 : is_fill e = false := T .fill
      have t2 : is_take e = false := T .take
      have t3 : is_drop e = true := T .drop
      have t4 : is_reverse e = false := T .reverse
      have t5 : is_append e = false := T .append
      have t6 : is_transpose e = false := T .transpose
      have t7 : is_diagonal e = false := T .diagonal
      have t8 : is_windows e = false := T .windows
      have t9 : is_chunk e = false := T .chunk
      have t10 : is_index e = false := T .index
      have t11 : is_update e = false := T .update
      have t12 : is_pack e = false := T .pack
      rw [rks_op ho rfl]
      cases hn : (n != (((rk .drop).length : Nat) : Int)) with
      | true =>
        rw [if_pos rfl]
        refine Meets.weak (r0 := .tup [.nils, B false]) ?_ rk_nil
        refine meets_of (X := false) Ty.mixed Try.func18 (by kernel_rfl) rfl (by kernel_rfl) (by simp) ?_; rw [Try.ntmps18, Try.results18]
        simp only [ydI,ydt,ydu,ydq,ydl,ydv,ydF,ydV,ydL,ydh,ydi,ydn,isCallV,ydw,ydE,ydK,ydQ,ydx,slot.eq_1,ydy,pureOp,apureO,astepO,ydz,killT,aev,cv,cvc,binK,ydO,lenA,lenK,cellsA,cellOk,setAll,fillA,ydD,ydC,chunk,ydS,ydA,yds,ydN,ydR,ydB,ydj,ydr,ydm,notExit,ydo,ydp,ydH,argT,ycN,↓reduceIte,ycS,ycU,ydc,ydf,ycV,ycQ,ycR,ycO,ydb,ydd,ydg,ydG,ycY,ycT,Value.oneCell',true_and,and_true,and_self,reduceCtorEq,Nat.reduceMul,Nat.reduceLT,Nat.reduceLeDiff,Nat.reduceEqDiff,Nat.reduceMod,ycZ,ycW,ycX,ycP,ydk,yde,Ty.td3,Ty.td22,t0,t1,t2,t3,t4,t5,t6,t7,t8,t9,t10,t11,t12,show (((1 : Nat) : Int) != n) = true from bne_iff_ne.2 (fun h => bne_iff_ne.1 hn h.symm),show ((0 : Int) != n) = !(n == 0) by rw [bne, Bool.beq_comm]]
      | false =>
        rw [if_neg (by simp)]
        refine meets_of (X := false) Ty.mixed Try.func18 (by kernel_rfl) rfl (by kernel_rfl) (by simp) ?_; rw [Try.ntmps18, Try.results18]
        simp only [ydI,ydt,ydu,ydq,ydl,ydv,ydF,ydL,ydh,ydi,ydn,isCallV,ydw,ydE,ydK,ydQ,ydx,slot.eq_1,ydy,pureOp,apureO,astepO,ydz,killT,aev,cv,cvc,binK,ydO,lenA,lenK,cellsA,cellOk,setAll,fillA,ydD,ydC,elemsA,chunk,ydS,ydA,yds,ydN,ydB,ydU,ydj,ydr,ydm,notExit,ydo,ydp,ydH,argT,ycN,↓reduceIte,yda,ycS,ycU,ydc,ydf,ycV,ycQ,ycR,ycO,ydb,ydd,ydg,ycY,ycT,Value.oneCell',true_and,and_self,reduceCtorEq,Nat.reduceMul,Nat.reduceLT,Nat.reduceLeDiff,Nat.reduceEqDiff,Nat.reduceMod,ycZ,ycW,ycX,ycP,ydk,yde,Ty.td3,Ty.td22,t0,t1,t2,t3,t4,t5,t6,t7,t8,t9,t10,t11,t12,show (((1 : Nat) : Int) != n) = false by rw [bne_eq_false_iff_eq] at hn ⊢; exact hn.symm]
        try rfl
    case reverse =>
      have t0 : is_iota e = false := T .iota
      have t1 : is_fill e = false := T .fill
      have t2 : is_take e = false := T .take
      have t3 : is_drop e = false := T .drop
      have t4 : is_reverse e = true := T .reverse
      have t5 : is_append e = false := T .append
      have t6 : is_transpose e = false := T .transpose
      have t7 : is_diagonal e = false := T .diagonal
      have t8 : is_windows e = false := T .windows
      have t9 : is_chunk e = false := T .chunk
      have t10 : is_index e = false := T .index
      have t11 : is_update e = false := T .update
      have t12 : is_pack e = false := T .pack
      rw [rks_op ho rfl]
      cases hn : (n != (((rk .reverse).length : Nat) : Int)) with
      | true =>
        rw [if_pos rfl]
        refine Meets.weak (r0 := .tup [.nils, B false]) ?_ rk_nil
        refine meets_of (X := false) Ty.mixed Try.func18 (by kernel_rfl) rfl (by kernel_rfl) (by simp) ?_; rw [Try.ntmps18, Try.results18]
        simp only [ydI,ydt,ydu,ydq,ydl,ydv,ydF,ydV,ydL,ydh,ydi,ydn,isCallV,ydw,ydE,ydK,ydQ,ydx,slot.eq_1,ydy,pureOp,apureO,astepO,ydz,killT,aev,cv,cvc,binK,ydO,lenA,lenK,cellsA,cellOk,setAll,fillA,ydD,ydC,chunk,ydS,ydA,yds,ydN,ydR,ydB,ydj,ydr,ydm,notExit,ydo,ydp,ydH,argT,ycN,↓reduceIte,ycS,ycU,ydc,ydf,ycV,ycQ,ycR,ycO,ydb,ydd,ydg,ydG,ycY,ycT,Value.oneCell',true_and,and_true,and_self,reduceCtorEq,Nat.reduceMul,Nat.reduceLT,Nat.reduceLeDiff,Nat.reduceEqDiff,Nat.reduceMod,ycZ,ycW,ycX,ycP,ydk,yde,Ty.td3,Ty.td22,t0,t1,t2,t3,t4,t5,t6,t7,t8,t9,t10,t11,t12,show (((1 : Nat) : Int) != n) = true from bne_iff_ne.2 (fun h => bne_iff_ne.1 hn h.symm),show ((0 : Int) != n) = !(n == 0) by rw [bne, Bool.beq_comm]]
      | false =>
        rw [if_neg (by simp)]
        refine meets_of (X := false) Ty.mixed Try.func18 (by kernel_rfl) rfl (by kernel_rfl) (by simp) ?_; rw [Try.ntmps18, Try.results18]
        simp only [ydI,ydt,ydu,ydq,ydl,ydv,ydF,ydL,ydh,ydi,ydn,isCallV,ydw,ydE,ydK,ydQ,ydx,slot.eq_1,ydy,pureOp,apureO,astepO,ydz,killT,aev,cv,cvc,binK,ydO,lenA,lenK,cellsA,cellOk,setAll,fillA,ydD,ydC,elemsA,chunk,ydS,ydA,yds,ydN,ydB,ydU,ydj,ydr,ydm,notExit,ydo,ydp,ydH,argT,ycN,↓reduceIte,yda,ycS,ycU,ydc,ydf,ycV,ycQ,ycR,ycO,ydb,ydd,ydg,ycY,ycT,Value.oneCell',true_and,and_self,reduceCtorEq,Nat.reduceMul,Nat.reduceLT,Nat.reduceLeDiff,Nat.reduceEqDiff,Nat.reduceMod,ycZ,ycW,ycX,ycP,ydk,yde,Ty.td3,Ty.td22,t0,t1,t2,t3,t4,t5,t6,t7,t8,t9,t10,t11,t12,show (((1 : Nat) : Int) != n) = false by rw [bne_eq_false_iff_eq] at hn ⊢; exact hn.symm]
        try rfl
    case append =>
      have t0 : is_iota e = false := T .iota
      have t1 : is_fill e = false := T .fill
      have t2 : is_take e = false := T .take
      have t3 : is_drop e = false := T .drop
      have t4 : is_reverse e = false := T .reverse
      have t5 : is_append e = true := T .append
      have t6 : is_transpose e = false := T .transpose
      have t7 : is_diagonal e = false := T .diagonal
      have t8 : is_windows e = false := T .windows
      have t9 : is_chunk e = false := T .chunk
      have t10 : is_index e = false := T .index
      have t11 : is_update e = false := T .update
      have t12 : is_pack e = false := T .pack
      rw [rks_op ho rfl]
      cases hn : (n != (((rk .append).length : Nat) : Int)) with
      | true =>
        rw [if_pos rfl]
        refine Meets.weak (r0 := .tup [.nils, B false]) ?_ rk_nil
        refine meets_of (X := false) Ty.mixed Try.func18 (by kernel_rfl) rfl (by kernel_rfl) (by simp) ?_; rw [Try.ntmps18, Try.results18]
        simp only [ydt,ydu,ydq,ydl,ydv,ydF,ydV,ydL,ydh,ydi,ydn,isCallV,ydw,ydE,ydK,ydQ,ydx,slot.eq_1,ydy,pureOp,apureO,astepO,ydz,killT,aev,cv,cvc,binK,ydO,lenA,lenK,cellsA,cellOk,setAll,fillA,ydD,ydC,chunk,ydS,ydA,yds,ydN,ydR,ydB,ydj,ydr,ydm,notExit,ydo,ydp,ydH,argT,ycN,↓reduceIte,ycS,ycU,ydc,ydf,ydP,ycV,ycQ,ydM,ycR,ycO,ydT,ydJ,ydb,ydd,ydg,ydG,ycY,ycT,Value.oneCell',true_and,and_true,and_self,reduceCtorEq,Nat.reduceAdd,Nat.reduceMul,Nat.reduceLT,Nat.reduceLeDiff,Nat.reduceEqDiff,Nat.reduceMod,ycZ,ycW,ycX,ycP,ydk,yde,Ty.td3,Ty.td22,t0,t1,t2,t3,t4,t5,t6,t7,t8,t9,t10,t11,t12,show (((2 : Nat) : Int) != n) = true from bne_iff_ne.2 (fun h => bne_iff_ne.1 hn h.symm),show ((0 : Int) != n) = !(n == 0) by rw [bne, Bool.beq_comm]]
      | false =>
        rw [if_neg (by simp)]
        refine meets_of (X := false) Ty.mixed Try.func18 (by kernel_rfl) rfl (by kernel_rfl) (by simp) ?_; rw [Try.ntmps18, Try.results18]
        simp only [ydI,ydt,ydu,ydq,ydl,ydv,ydF,ydL,ydh,ydi,ydn,isCallV,ydw,ydE,ydK,ydQ,ydx,slot.eq_1,ydy,pureOp,apureO,astepO,ydz,killT,aev,cv,cvc,binK,ydO,lenA,lenK,cellsA,cellOk,setAll,fillA,ydD,ydC,elemsA,chunk,ydS,ydA,yds,ydN,ydB,ydU,ydj,ydr,ydm,notExit,ydo,ydp,ydH,argT,ycN,↓reduceIte,yda,ycS,ycU,ydc,ydf,ydP,ycV,ycQ,ydM,ycR,ycO,ydT,ydJ,ydb,ydd,ydg,ycY,ycT,Value.oneCell',true_and,and_self,reduceCtorEq,Nat.reduceAdd,Nat.reduceMul,Nat.reduceLT,Nat.reduceLeDiff,Nat.reduceEqDiff,Nat.reduceMod,ycZ,ycW,ycX,ycP,ydk,yde,Ty.td3,Ty.td22,t0,t1,t2,t3,t4,t5,t6,t7,t8,t9,t10,t11,t12,show (((2 : Nat) : Int) != n) = false by rw [bne_eq_false_iff_eq] at hn ⊢; exact hn.symm]
        try rfl
    case transpose =>
      have t0 : is_iota e = false := T .iota
      have t1 : is_fill e = false := T .fill
      have t2 : is_take e = false := T .take
      have t3 : is_drop e = false := T .drop
      have t4 : is_reverse e = false := T .reverse
      have t5 : is_append e = false := T .append
      have t6 : is_transpose e = true := T .transpose
      have t7 : is_diagonal e = false := T .diagonal
      have t8 : is_windows e = false := T .windows
      have t9 : is_chunk e = false := T .chunk
      have t10 : is_index e = false := T .index
      have t11 : is_update e = false := T .update
      have t12 : is_pack e = false := T .pack
      rw [rks_op ho rfl]
      cases hn : (n != (((rk .transpose).length : Nat) : Int)) with
      | true =>
        rw [if_pos rfl]
        refine Meets.weak (r0 := .tup [.nils, B false]) ?_ rk_nil
        refine meets_of (X := false) Ty.mixed Try.func18 (by kernel_rfl) rfl (by kernel_rfl) (by simp) ?_; rw [Try.ntmps18, Try.results18]
        simp only [ydI,ydt,ydu,ydq,ydl,ydv,ydF,ydV,ydL,ydh,ydi,ydn,isCallV,ydw,ydE,ydK,ydQ,ydx,slot.eq_1,ydy,pureOp,apureO,astepO,ydz,killT,aev,cv,cvc,binK,ydO,lenA,lenK,cellsA,cellOk,setAll,fillA,ydD,ydC,chunk,ydS,ydA,yds,ydN,ydR,ydB,ydj,ydr,ydm,notExit,ydo,ydp,ydH,argT,ycN,↓reduceIte,ycS,ycU,ydc,ydf,ycV,ycQ,ycR,ycO,ydb,ydd,ydg,ydG,ycY,ycT,Value.oneCell',true_and,and_true,and_self,reduceCtorEq,Nat.reduceMul,Nat.reduceLT,Nat.reduceLeDiff,Nat.reduceEqDiff,Nat.reduceMod,ycZ,ycW,ycX,ycP,ydk,yde,Ty.td3,Ty.td22,t0,t1,t2,t3,t4,t5,t6,t7,t8,t9,t10,t11,t12,show (((1 : Nat) : Int) != n) = true from bne_iff_ne.2 (fun h => bne_iff_ne.1 hn h.symm),show ((0 : Int) != n) = !(n == 0) by rw [bne, Bool.beq_comm]]
      | false =>
        rw [if_neg (by simp)]
        refine meets_of (X := false) Ty.mixed Try.func18 (by kernel_rfl) rfl (by kernel_rfl) (by simp) ?_; rw [Try.ntmps18, Try.results18]
        simp only [ydI,ydt,ydu,ydq,ydl,ydv,ydF,ydL,ydh,ydi,ydn,isCallV,ydw,ydE,ydK,ydQ,ydx,slot.eq_1,ydy,pureOp,apureO,astepO,ydz,killT,aev,cv,cvc,binK,ydO,lenA,lenK,cellsA,cellOk,setAll,fillA,ydD,ydC,elemsA,chunk,ydS,ydA,yds,ydN,ydB,ydU,ydj,ydr,ydm,notExit,ydo,ydp,ydH,argT,ycN,↓reduceIte,yda,ycS,ycU,ydc,ydf,ycV,ycQ,ycR,ycO,ydb,ydd,ydg,ycY,ycT,Value.oneCell',true_and,and_self,reduceCtorEq,Nat.reduceMul,Nat.reduceLT,Nat.reduceLeDiff,Nat.reduceEqDiff,Nat.reduceMod,ycZ,ycW,ycX,ycP,ydk,yde,Ty.td3,Ty.td22,t0,t1,t2,t3,t4,t5,t6,t7,t8,t9,t10,t11,t12,show (((1 : Nat) : Int) != n) = false by rw [bne_eq_false_iff_eq] at hn ⊢; exact hn.symm]
        try rfl
    case diagonal =>
      have t0 : is_iota e = false := T .iota
      have t1 : is_fill e = false := T .fill
      have t2 : is_take e = false := T .take
      have t3 : is_drop e = false := T .drop
      have t4 : is_reverse e = false := T .reverse
      have t5 : is_append e = false := T .append
      have t6 : is_transpose e = false := T .transpose
      have t7 : is_diagonal e = true := T .diagonal
      have t8 : is_windows e = false := T .windows
      have t9 : is_chunk e = false := T .chunk
      have t10 : is_index e = false := T .index
      have t11 : is_update e = false := T .update
      have t12 : is_pack e = false := T .pack
      rw [rks_op ho rfl]
      cases hn : (n != (((rk .diagonal).length : Nat) : Int)) with
      | true =>
        rw [if_pos rfl]
        refine Meets.weak (r0 := .tup [.nils, B false]) ?_ rk_nil
        refine meets_of (X := false) Ty.mixed Try.func18 (by kernel_rfl) rfl (by kernel_rfl) (by simp) ?_; rw [Try.ntmps18, Try.results18]
        simp only [ydt,ydu,ydq,ydl,ydv,ydF,ydV,ydL,ydh,ydi,ydn,isCallV,ydw,ydE,ydK,ydQ,ydx,slot.eq_1,ydy,pureOp,apureO,astepO,ydz,killT,aev,cv,cvc,binK,ydO,lenA,lenK,cellsA,cellOk,setAll,fillA,ydD,ydC,chunk,ydS,ydA,yds,ydN,ydR,ydB,ydj,ydr,ydm,notExit,ydo,ydp,ydH,argT,ycN,↓reduceIte,ycS,ycU,ydc,ydf,ycV,ycQ,ycR,ycO,ydb,ydd,ydg,ydG,ycY,ycT,Value.oneCell',true_and,and_true,and_self,reduceCtorEq,Nat.reduceMul,Nat.reduceLT,Nat.reduceLeDiff,Nat.reduceEqDiff,Nat.reduceMod,ycZ,ycW,ycX,ycP,ydk,yde,Ty.td3,Ty.td22,t0,t1,t2,t3,t4,t5,t6,t7,t8,t9,t10,t11,t12,show (((1 : Nat) : Int) != n) = true from bne_iff_ne.2 (fun h => bne_iff_ne.1 hn h.symm),show ((0 : Int) != n) = !(n == 0) by rw [bne, Bool.beq_comm]]
      | false =>
        rw [if_neg (by simp)]
        refine meets_of (X := false) Ty.mixed Try.func18 (by kernel_rfl) rfl (by kernel_rfl) (by simp) ?_; rw [Try.ntmps18, Try.results18]
        simp only [ydI,ydt,ydu,ydq,ydl,ydv,ydF,ydL,ydh,ydi,ydn,isCallV,ydw,ydE,ydK,ydQ,ydx,slot.eq_1,ydy,pureOp,apureO,astepO,ydz,killT,aev,cv,cvc,binK,ydO,lenA,lenK,cellsA,cellOk,setAll,fillA,ydD,ydC,elemsA,chunk,ydS,ydA,yds,ydN,ydB,ydU,ydj,ydr,ydm,notExit,ydo,ydp,ydH,argT,ycN,↓reduceIte,yda,ycS,ycU,ydc,ydf,ycV,ycQ,ycR,ycO,ydb,ydd,ydg,ycY,ycT,Value.oneCell',true_and,and_self,reduceCtorEq,Nat.reduceMul,Nat.reduceLT,Nat.reduceLeDiff,Nat.reduceEqDiff,Nat.reduceMod,ycZ,ycW,ycX,ycP,ydk,yde,Ty.td3,Ty.td22,t0,t1,t2,t3,t4,t5,t6,t7,t8,t9,t10,t11,t12,show (((1 : Nat) : Int) != n) = false by rw [bne_eq_false_iff_eq] at hn ⊢; exact hn.symm]
        try rfl
    case windows =>
      have t0 : is_iota e = false := T .iota
      have t1 : is_fill e = false := T .fill
      have t2 : is_take e = false := T .take
      have t3 : is_drop e = false := T .drop
      have t4 : is_reverse e = false := T .reverse
      have t5 : is_append e = false := T .append
      have t6 : is_transpose e = false := T .transpose
      have t7 : is_diagonal e = false := T .diagonal
      have t8 : is_windows e = true := T .windows
      have t9 : is_chunk e = false := T .chunk
      have t10 : is_index e = false := T .index
      have t11 : is_update e = false := T .update
      have t12 : is_pack e = false := T .pack
      rw [rks_op ho rfl]
      cases hn : (n != (((rk .windows).length : Nat) : Int)) with
      | true =>
        rw [if_pos rfl]
        refine Meets.weak (r0 := .tup [.nils, B false]) ?_ rk_nil
        refine meets_of (X := false) Ty.mixed Try.func18 (by kernel_rfl) rfl (by kernel_rfl) (by simp) ?_; rw [Try.ntmps18, Try.results18]
        simp only [ydI,ydt,ydu,ydq,ydl,ydv,ydF,ydV,ydL,ydh,ydi,ydn,isCallV,ydw,ydE,ydK,ydQ,ydx,slot.eq_1,ydy,pureOp,apureO,astepO,ydz,killT,aev,cv,cvc,binK,ydO,lenA,lenK,cellsA,cellOk,setAll,fillA,ydD,ydC,chunk,ydS,ydA,yds,ydN,ydR,ydB,ydj,ydr,ydm,notExit,ydo,ydp,ydH,argT,ycN,↓reduceIte,ycS,ycU,ydc,ydf,ycV,ycQ,ycR,ycO,ydb,ydd,ydg,ydG,ycY,ycT,Value.oneCell',true_and,and_true,and_self,reduceCtorEq,Nat.reduceMul,Nat.reduceLT,Nat.reduceLeDiff,Nat.reduceEqDiff,Nat.reduceMod,ycZ,ycW,ycX,ycP,ydk,yde,Ty.td3,Ty.td22,t0,t1,t2,t3,t4,t5,t6,t7,t8,t9,t10,t11,t12,show (((1 : Nat) : Int) != n) = true from bne_iff_ne.2 (fun h => bne_iff_ne.1 hn h.symm),show ((0 : Int) != n) = !(n == 0) by rw [bne, Bool.beq_comm]]
      | false =>
        rw [if_neg (by simp)]
        refine meets_of (X := false) Ty.mixed Try.func18 (by kernel_rfl) rfl (by kernel_rfl) (by simp) ?_; rw [Try.ntmps18, Try.results18]
        simp only [ydI,ydt,ydu,ydq,ydl,ydv,ydF,ydL,ydh,ydi,ydn,isCallV,ydw,ydE,ydK,ydQ,ydx,slot.eq_1,ydy,pureOp,apureO,astepO,ydz,killT,aev,cv,cvc,binK,ydO,lenA,lenK,cellsA,cellOk,setAll,fillA,ydD,ydC,elemsA,chunk,ydS,ydA,yds,ydN,ydB,ydU,ydj,ydr,ydm,notExit,ydo,ydp,ydH,argT,ycN,↓reduceIte,yda,ycS,ycU,ydc,ydf,ycV,ycQ,ycR,ycO,ydb,ydd,ydg,ycY,ycT,Value.oneCell',true_and,and_self,reduceCtorEq,Nat.reduceMul,Nat.reduceLT,Nat.reduceLeDiff,Nat.reduceEqDiff,Nat.reduceMod,ycZ,ycW,ycX,ycP,ydk,yde,Ty.td3,Ty.td22,t0,t1,t2,t3,t4,t5,t6,t7,t8,t9,t10,t11,t12,show (((1 : Nat) : Int) != n) = false by rw [bne_eq_false_iff_eq] at hn ⊢; exact hn.symm]
        try rfl
    case chunk =>
      have t0 : is_iota e = false := T .iota
      have t1 : is_fill e = false := T .fill
      have t2 : is_take e = false := T .take
      have t3 : is_drop e = false := T .drop
      have t4 : is_reverse e = false := T .reverse
      have t5 : is_append e = false := T .append
      have t6 : is_transpose e = false := T .transpose
      have t7 : is_diagonal e = false := T .diagonal
      have t8 : is_windows e = false := T .windows
      have t9 : is_chunk e = true := T .chunk
      have t10 : is_index e = false := T .index
      have t11 : is_update e = false := T .update
      have t12 : is_pack e = false := T .pack
      rw [rks_op ho rfl]
      cases hn : (n != (((rk .chunk).length : Nat) : Int)) with
      | true =>
        rw [if_pos rfl]
        refine Meets.weak (r0 := .tup [.nils, B false]) ?_ rk_nil
        refine meets_of (X := false) Ty.mixed Try.func18 (by kernel_rfl) rfl (by kernel_rfl) (by simp) ?_; rw [Try.ntmps18, Try.results18]
        simp only [ydt,ydu,ydq,ydl,ydv,ydF,ydV,ydL,ydh,ydi,ydn,isCallV,ydw,ydE,ydK,ydQ,ydx,slot.eq_1,ydy,pureOp,apureO,astepO,ydz,killT,aev,cv,cvc,binK,ydO,lenA,lenK,cellsA,cellOk,setAll,fillA,ydD,ydC,chunk,ydS,ydA,yds,ydN,ydR,ydB,ydj,ydr,ydm,notExit,ydo,ydp,ydH,argT,ycN,↓reduceIte,ycS,ycU,ydc,ydf,ycV,ycQ,ycR,ycO,ydb,ydd,ydg,ydG,ycY,ycT,Value.oneCell',true_and,and_true,and_self,reduceCtorEq,Nat.reduceMul,Nat.reduceLT,Nat.reduceLeDiff,Nat.reduceEqDiff,Nat.reduceMod,ycZ,ycW,ycX,ycP,ydk,yde,Ty.td3,Ty.td22,t0,t1,t2,t3,t4,t5,t6,t7,t8,t9,t10,t11,t12,show (((1 : Nat) : Int) != n) = true from bne_iff_ne.2 (fun h => bne_iff_ne.1 hn h.symm),show ((0 : Int) != n) = !(n == 0) by rw [bne, Bool.beq_comm]]
      | false =>
        rw [if_neg (by simp)]
        refine meets_of (X := false) Ty.mixed Try.func18 (by kernel_rfl) rfl (by kernel_rfl) (by simp) ?_; rw [Try.ntmps18, Try.results18]
        simp only [ydI,ydt,ydu,ydq,ydl,ydv,ydF,ydL,ydh,ydi,ydn,isCallV,ydw,ydE,ydK,ydQ,ydx,slot.eq_1,ydy,pureOp,apureO,astepO,ydz,killT,aev,cv,cvc,binK,ydO,lenA,lenK,cellsA,cellOk,setAll,fillA,ydD,ydC,elemsA,chunk,ydS,ydA,yds,ydN,ydB,ydU,ydj,ydr,ydm,notExit,ydo,ydp,ydH,argT,ycN,↓reduceIte,yda,ycS,ycU,ydc,ydf,ycV,ycQ,ycR,ycO,ydb,ydd,ydg,ycY,ycT,Value.oneCell',true_and,and_self,reduceCtorEq,Nat.reduceMul,Nat.reduceLT,Nat.reduceLeDiff,Nat.reduceEqDiff,Nat.reduceMod,ycZ,ycW,ycX,ycP,ydk,yde,Ty.td3,Ty.td22,t0,t1,t2,t3,t4,t5,t6,t7,t8,t9,t10,t11,t12,show (((1 : Nat) : Int) != n) = false by rw [bne_eq_false_iff_eq] at hn ⊢; exact hn.symm]
        try rfl
    case index =>
      have t0 : is_iota e = false := T .iota
      have t1 : is_fill e = false := T .fill
      have t2 : is_take e = false := T .take
      have t3 : is_drop e = false := T .drop
      have t4 : is_reverse e = false := T .reverse
      have t5 : is_append e = false := T .append
      have t6 : is_transpose e = false := T .transpose
      have t7 : is_diagonal e = false := T .diagonal
      have t8 : is_windows e = false := T .windows
      have t9 : is_chunk e = false := T .chunk
      have t10 : is_index e = true := T .index
      have t11 : is_update e = false := T .update
      have t12 : is_pack e = false := T .pack
      rw [rks_op ho rfl]
      cases hn : (n != (((rk .index).length : Nat) : Int)) with
      | true =>
        rw [if_pos rfl]
        refine Meets.weak (r0 := .tup [.nils, B false]) ?_ rk_nil
        refine meets_of (X := false) Ty.mixed Try.func18 (by kernel_rfl) rfl (by kernel_rfl) (by simp) ?_; rw [Try.ntmps18, Try.results18]
        simp only [ydt,ydu,ydq,ydl,ydv,ydF,ydV,ydL,ydh,ydi,ydn,isCallV,ydw,ydE,ydK,ydQ,ydx,slot.eq_1,ydy,pureOp,apureO,astepO,ydz,killT,aev,cv,cvc,binK,ydO,lenA,lenK,cellsA,cellOk,setAll,fillA,ydD,ydC,chunk,ydS,ydA,yds,ydN,ydR,ydB,ydj,ydr,ydm,notExit,ydo,ydp,ydH,argT,ycN,↓reduceIte,ycS,ycU,ydc,ydf,ydP,ycV,ycQ,ydM,ycR,ycO,ydT,ydJ,ydb,ydd,ydg,ydG,ycY,ycT,Value.oneCell',true_and,and_true,and_self,reduceCtorEq,Nat.reduceAdd,Nat.reduceMul,Nat.reduceLT,Nat.reduceLeDiff,Nat.reduceEqDiff,Nat.reduceMod,ycZ,ycW,ycX,ycP,ydk,yde,Ty.td3,Ty.td22,t0,t1,t2,t3,t4,t5,t6,t7,t8,t9,t10,t11,t12,show (((2 : Nat) : Int) != n) = true from bne_iff_ne.2 (fun h => bne_iff_ne.1 hn h.symm),show ((0 : Int) != n) = !(n == 0) by rw [bne, Bool.beq_comm]]
      | false =>
        rw [if_neg (by simp)]
        refine meets_of (X := false) Ty.mixed Try.func18 (by kernel_rfl) rfl (by kernel_rfl) (by simp) ?_; rw [Try.ntmps18, Try.results18]
        simp only [ydI,ydt,ydu,ydq,ydl,ydv,ydF,ydL,ydh,ydi,ydn,isCallV,ydw,ydE,ydK,ydQ,ydx,slot.eq_1,ydy,pureOp,apureO,astepO,ydz,killT,aev,cv,cvc,binK,ydO,lenA,lenK,cellsA,cellOk,setAll,fillA,ydD,ydC,elemsA,chunk,ydS,ydA,yds,ydN,ydB,ydU,ydj,ydr,ydm,notExit,ydo,ydp,ydH,argT,ycN,↓reduceIte,yda,ycS,ycU,ydc,ydf,ydP,ycV,ycQ,ydM,ycR,ycO,ydT,ydJ,ydb,ydd,ydg,ycY,ycT,Value.oneCell',true_and,and_self,reduceCtorEq,Nat.reduceAdd,Nat.reduceMul,Nat.reduceLT,Nat.reduceLeDiff,Nat.reduceEqDiff,Nat.reduceMod,ycZ,ycW,ycX,ycP,ydk,yde,Ty.td3,Ty.td22,t0,t1,t2,t3,t4,t5,t6,t7,t8,t9,t10,t11,t12,show (((2 : Nat) : Int) != n) = false by rw [bne_eq_false_iff_eq] at hn ⊢; exact hn.symm]
        try rfl
    case update =>
      have t0 : is_iota e = false := T .iota
      have t1 : is_fill e = false := T .fill
      have t2 : is_take e = false := T .take
      have t3 : is_drop e = false := T .drop
      have t4 : is_reverse e = false := T .reverse
      have t5 : is_append e = false := T .append
      have t6 : is_transpose e = false := T .transpose
      have t7 : is_diagonal e = false := T .diagonal
      have t8 : is_windows e = false := T .windows
      have t9 : is_chunk e = false := T .chunk
      have t10 : is_index e = false := T .index
      have t11 : is_update e = true := T .update
      have t12 : is_pack e = false := T .pack
      rw [rks_op ho rfl]
      cases hn : (n != (((rk .update).length : Nat) : Int)) with
      | true =>
        rw [if_pos rfl]
        refine Meets.weak (r0 := .tup [.nils, B false]) ?_ rk_nil
        refine meets_of (X := false) Ty.mixed Try.func18 (by kernel_rfl) rfl (by kernel_rfl) (by simp) ?_; rw [Try.ntmps18, Try.results18]
        simp only [ydt,ydu,ydq,ydl,ydv,ydF,ydV,ydL,ydh,ydi,ydn,isCallV,ydw,ydE,ydK,ydQ,ydx,slot.eq_1,ydy,pureOp,apureO,astepO,ydz,killT,aev,cv,cvc,binK,ydO,lenA,lenK,cellsA,cellOk,setAll,fillA,ydD,ydC,chunk,ydS,ydA,yds,ydN,ydR,ydB,ydj,ydr,ydm,notExit,ydo,ydp,ydH,argT,ycN,↓reduceIte,ycS,ycU,ydc,ydf,ydP,ycV,ycQ,ydM,ycR,ycO,ydT,ydJ,ydb,ydd,ydg,ydG,ycY,ycT,Value.oneCell',true_and,and_true,and_self,reduceCtorEq,Nat.reduceAdd,Nat.reduceMul,Nat.reduceLT,Nat.reduceLeDiff,Nat.reduceEqDiff,Nat.reduceMod,ycZ,ycW,ycX,ycP,ydk,yde,Ty.td3,Ty.td22,t0,t1,t2,t3,t4,t5,t6,t7,t8,t9,t10,t11,t12,show (((3 : Nat) : Int) != n) = true from bne_iff_ne.2 (fun h => bne_iff_ne.1 hn h.symm),show ((0 : Int) != n) = !(n == 0) by rw [bne, Bool.beq_comm]]
      | false =>
        rw [if_neg (by simp)]
        refine meets_of (X := false) Ty.mixed Try.func18 (by kernel_rfl) rfl (by kernel_rfl) (by simp) ?_; rw [Try.ntmps18, Try.results18]
        simp only [ydI,ydt,ydu,ydq,ydl,ydv,ydF,ydL,ydh,ydi,ydn,isCallV,ydw,ydE,ydK,ydQ,ydx,slot.eq_1,ydy,pureOp,apureO,astepO,ydz,killT,aev,cv,cvc,binK,ydO,lenA,lenK,cellsA,cellOk,setAll,fillA,ydD,ydC,elemsA,chunk,ydS,ydA,yds,ydN,ydB,ydU,ydj,ydr,ydm,notExit,ydo,ydp,ydH,argT,ycN,↓reduceIte,yda,ycS,ycU,ydc,ydf,ydP,ycV,ycQ,ydM,ycR,ycO,ydT,ydJ,ydb,ydd,ydg,ycY,ycT,Value.oneCell',true_and,and_self,reduceCtorEq,Nat.reduceAdd,Nat.reduceMul,Nat.reduceLT,Nat.reduceLeDiff,Nat.reduceEqDiff,Nat.reduceMod,ycZ,ycW,ycX,ycP,ydk,yde,Ty.td3,Ty.td22,t0,t1,t2,t3,t4,t5,t6,t7,t8,t9,t10,t11,t12,show (((3 : Nat) : Int) != n) = false by rw [bne_eq_false_iff_eq] at hn ⊢; exact hn.symm]
        try rfl
    case pack =>
      have t0 : is_iota e = false := T .iota
      have t1 : is_fill e = false := T .fill
      have t2 : is_take e = false := T .take
      have t3 : is_drop e = false := T .drop
      have t4 : is_reverse e = false := T .reverse
      have t5 : is_append e = false := T .append
      have t6 : is_transpose e = false := T .transpose
      have t7 : is_diagonal e = false := T .diagonal
      have t8 : is_windows e = false := T .windows
      have t9 : is_chunk e = false := T .chunk
      have t10 : is_index e = false := T .index
      have t11 : is_update e = false := T .update
      have t12 : is_pack e = true := T .pack
      by_cases h2 : 0 < n
      · have hr : rksE e n = (List.replicate n.toNat 0, true) := by
          unfold rksE
          rw [t12, if_pos (by simp; omega)]
        rw [hr]
        refine meets_of (X := false) Ty.mixed Try.func18 (by kernel_rfl) rfl (by kernel_rfl) (by simp) ?_; rw [Try.ntmps18, Try.results18]
        simp only [ydt,ydu,ydq,ydl,ydv,ydF,ydV,blkQ_r,ydh,ydi,awpOps_if,ydn,isCallV,awpO_is,ydw,ydE,ydK,ydQ,ydx,ydy,pureOp,apureO,astepO,killT,aev,cv,cvc,binK,ydO,yieldA,guardA_tt,ydD,ydC,pickA_t,elemsA,ydN,ydB,ydU,ydj,ydr,ydm,notExit,ydo,ydp,ydH,argT,ycN,↓reduceIte,yda,List.getElem?_cons_succ,ycS,ycU,ydc,ydf,ycV,List.getElem?_toArray,Option.bind_some,ydd,ydg,ycY,ycT,Value.oneCell',true_and,and_self,reduceCtorEq,Nat.reduceLT,Nat.reduceEqDiff,ycZ,decide_true,Int.le_refl,Ty.td3,Ty.td22,t0,t1,t2,t3,t4,t5,t6,t7,t8,t9,t10,t11,t12,show 1 ≤ n by omega,h1]
        refine ⟨by omega, by omega, by omega, ?_⟩
        simp [enc]
        show some [AV.sl false 1 (List.replicate n.toNat [.c (.int .i64 0)]), B true] = some [.sl false 1 ((List.replicate n.toNat 0).map enc), B true]
        rw [List.map_replicate]
      · have hr : rksE e n = ([], false) := by
          unfold rksE
          rw [t12, if_neg (by simp; omega), ho]
          rfl
        rw [hr]
        refine Meets.weak (r0 := .tup [.nils, B false]) ?_ rk_nil
        refine meets_of (X := false) Ty.mixed Try.func18 (by kernel_rfl) rfl (by kernel_rfl) (by simp) ?_; rw [Try.ntmps18, Try.results18]
        simp only [ydI,ydt,ydu,ydq,ydl,ydv,ydF,ydV,blkQ_r,ydh,ydi,awpOps_if,ydn,ydw,ydK,ydx,ydy,pureOp,apureO,aev,cv,cvc,binK,yieldA,guardA_tf,ydD,ydC,pickA_f,ydN,ydR,ydB,ydj,ydr,ydm,notExit,ydo,ydp,ydH,argT,↓reduceIte,yda,List.getElem?_cons_succ,List.getElem?_toArray,Option.bind_some,ycR,ycT,and_self,reduceCtorEq,Nat.reduceEqDiff,ycZ,decide_false,t0,t1,t2,t3,t4,t5,t6,t7,t8,t9,t10,t11,t12,show ¬ 1 ≤ n by omega]

def opsL : List ByteArray := [⟨#[105, 111, 116, 97]⟩, ⟨#[102, 105, 108, 108]⟩, ⟨#[116, 97, 107, 101]⟩, ⟨#[100, 114, 111, 112]⟩, ⟨#[114, 101, 118, 101, 114, 115, 101]⟩, ⟨#[97, 112, 112, 101, 110, 100]⟩, ⟨#[116, 114, 97, 110, 115, 112, 111, 115, 101]⟩, ⟨#[100, 105, 97, 103, 111, 110, 97, 108]⟩, ⟨#[119, 105, 110, 100, 111, 119, 115]⟩, ⟨#[99, 104, 117, 110, 107]⟩, ⟨#[105, 110, 100, 101, 120]⟩, ⟨#[117, 112, 100, 97, 116, 101]⟩, ⟨#[112, 97, 99, 107]⟩]
theorem ops_ : Meets Try.prog 24 [] (strs opsL) := by
  refine meets_of (X := false) Ty.mixed Try.func24 (by kernel_rfl) rfl (by kernel_rfl) (by simp) ?_; rw [Try.ntmps24, Try.results24]
  simp only [ydt,ydu,ydv,ydF,ydh,ydi,ydn,isCallV,ydw,ydE,ydK,ydQ,ydx,slot.eq_1,ydy,pureOp,apureO,astepO,ydz,killT,aev,cv,cvc,ydO,cellsA,cellOk,setAll,fillA,elemsA,chunk,ydS,ydA,yds,ydU,notExit,ydo,ydp,oneA_1,argT,ycN,↓reduceIte,yda,ycS,ycU,ydc,ydf,ydP,ycV,ycQ,ydM,ycR,ycO,ydT,ydJ,ydb,ydd,ydg,ycY,ycT,Value.oneCell',true_and,and_self,Nat.reduceAdd,Nat.reduceMul,Nat.reduceLT,Nat.reduceLeDiff,Nat.reduceMod,ycZ,ycW,ycX,ydk,yde,Ty.td9,Ty.td34]
  repeat refine ⟨by omega, ?_⟩
  try rfl
theorem refOps_ : Meets Try.prog 25 [] (strs opsL) := by
  refine meets_of (X := false) Ty.mixed Try.func25 (by kernel_rfl) rfl (by kernel_rfl) (by simp) ?_; rw [Try.ntmps25, Try.results25]
  simp only [ydt,ydu,ydv,ydF,ydh,ydi,ydn,isCallV,ydw,ydE,ydK,ydQ,ydx,slot.eq_1,ydy,pureOp,apureO,astepO,ydz,killT,aev,cv,cvc,ydO,cellsA,cellOk,setAll,fillA,elemsA,chunk,ydS,ydA,yds,ydU,notExit,ydo,ydp,oneA_1,argT,ycN,↓reduceIte,yda,ycS,ycU,ydc,ydf,ydP,ycV,ycQ,ydM,ycR,ycO,ydT,ydJ,ydb,ydd,ydg,ycY,ycT,Value.oneCell',true_and,and_self,Nat.reduceAdd,Nat.reduceMul,Nat.reduceLT,Nat.reduceLeDiff,Nat.reduceMod,ycZ,ycW,ycX,ydk,yde,Ty.td9,Ty.td34]
  repeat refine ⟨by omega, ?_⟩
  try rfl
end Go.Proofs.Ytbmmemglkjeogaa.S29
