/- Linear expressions: differences and products in the program; sums as sorted lists. -/
import Derived.Test.YtjgaebomcdkohaaGreatDoorL6
import Derived.Test.YtjgaebomcdkohaaGreatDoorL7
namespace Go.Proofs.YtjgaebomcdkohaaGreatDoor.L19
open Go Go.Proofs.YtjgaebomcdkohaaGreatDoor.Eng Go.Proofs.YtjgaebomcdkohaaGreatDoor Go.RowKit Go.Proofs.YtjgaebomcdkohaaGreatDoor.L1 Go.Proofs.YtjgaebomcdkohaaGreatDoor.L2 Go.Proofs.YtjgaebomcdkohaaGreatDoor.L3 Go.Proofs.YtjgaebomcdkohaaGreatDoor.L4 Go.Proofs.YtjgaebomcdkohaaGreatDoor.L5 Go.Proofs.YtjgaebomcdkohaaGreatDoor.L6 Go.Proofs.YtjgaebomcdkohaaGreatDoor.L7
open _root_.List renaming append_nil → za, getElem?_cons_zero → zb, getElem?_cons_succ → zf, take_succ_cons → zg, map_nil → zh, isEmpty_nil → zi, map_cons → zj, length_cons → zk, length_nil → zl, drop_zero → zq, take_nil → zx, getElem?_toArray → zH, all_cons → zZ, set_cons_zero → yaa, set_cons_succ → yab, all_nil → yad, cons_append → yaf, nil_append → yag
open _root_.Bool renaming false_eq_true → zd, or_true → zr, true_and → zw, and_self → zE, and_true → zN, and_false → zX, not_true → yan, not_false → yar
open _root_.Go.Proofs.YtjgaebomcdkohaaGreatDoor.Eng renaming consO_some → zo, toDL_cons → zu, slot_is → zy, toDL_nil → zA, putK_is → zB, ownsL_cons → zD, awpOpsD_one → zG, ownsL_nil → zI, awpOpD_is → zJ, awpOps_nil → zK, awpOps_one → zL, put_s → zM, seqQ_n → zO, awpOp_is → zP, ownsV_c → zQ, toD_c → zS, callWD_is → zT, callVD_is → zU, loadA_p → zV, toD_agg → zW, flat_c → zY, awp_seq → yac, ownsV_agg → yae, toD_sl → yah, ownsV_sl → yai, updK_is → yaj, elO_s → yak, flatL_cons → yal, awpOpsD_if → yam, flatL_nil → yao, flat_agg → yap, awp_cond → yaq, guardA_tt → yas, awp_reg → yat, flat_sl → yau, awpOD_is → yav
open _root_.Option renaming map_some → zp, bind_some → zR
open _root_.Nat renaming zero_add → zz, le_refl → zF
set_option linter.unusedSimpArgs false
set_option linter.unusedVariables false
set_option linter.unusedSectionVars false
set_option maxRecDepth 100000

theorem subP (hks : KS) (c1 : Int) (t1 : List Tm) (c2 : Int) (t2 : List Tm) (h1 : mid t1) (h2 : mid t2) : Meets Tryz.prog 14 [ln c1 t1, ln c2 t2] (linR (subE (c1, t1) (c2, t2))) := by
  refine meets_of (X := false) Ty.mixed Tryz.func14 (by kernel_rfl) rfl (by kernel_rfl) (by simp) ?_; rw [Tryz.ntmps14, Tryz.results14]
  simp only [yat,yac,zO,zK,zL,zP,isCallV,callW_is,callV_is,zB,yaj,zM,upd_s,zy,pureOp,apureO,astepO,killT,aev,cv,cvc,yak,zV,cellsA,cellOk,argT,isC,bsD,zd,↓reduceIte,zb,zf,zk,zl,zj,zh,yaf,yag,za,zg,zq,zZ,yad,zw,zE,Value.oneCell',true_and,and_self,reduceCtorEq,Nat.reduceAdd,Nat.reduceEqDiff,zz,zF,zx,Ty.td24]
  refine call_meets (combine hks c1 t1 c2 t2 (-1) h1 h2) (by simp only [aev,cv,cvc,zS,zW,yah,zo,zA,zu,isC,bsD,zp] <;> rfl) ?_; simp only [awp_ret,zO,zK,zL,zP,isCallV,zB,yaj,zM,upd_n,upd_s,zy,retA_is,pureOp,apureO,astepO,killT,aev,cv,cvc,yak,zV,storeA,cellsA,cellOk,setAll,zY,flat_tup,yap,yau,yao,yal,zQ,yae,yai,zI,zD,zS,toD_tup,zW,yah,zo,zA,zu,notExit,resA_nil,resA_tmp,resA_cell,oneA_2,isC,bsD,zd,↓reduceIte,zb,zf,zk,zl,za,yaa,yab,zp,zg,zq,zN,zw,zX,zE,zr,true_and,and_true,and_self,Nat.reduceAdd,Nat.reduceEqDiff,zz,zi,zF,zx,Ty.td24]
  rfl
def clampI (k : Int) : Int := min (max k (-1000000)) 1000000
def scaleE (l : Int × List Tm) (k : Int) : (Int × List Tm) × Int :=
  if validE l.1 l.2 = true then if fitsI k = false ∧ eqE l (0, []) = false then ((0, []), 3) else combineE (0, []) l (clampI k) else ((0, []), 1)
theorem scaleP (hks : KS) (c : Int) (ts : List Tm) (k : Int) (h : mid ts) : Meets Tryz.prog 16 [ln c ts, I k] (linR (scaleE (c, ts) k)) := by
  unfold scaleE
  simp only
  cases hv : validE c ts with
  | false =>
    refine Meets.weak (r0 := .tup [.agg [I 0, .nils], I 1]) ?_ fun ok w v h => nilR h
    refine meets_of (X := true) Ty.mixed Tryz.func16 (by kernel_rfl) rfl (by kernel_rfl) (by simp) ?_; rw [Tryz.ntmps16, Tryz.results16]
    simp only [yat,yac,zO,zK,zL,zP,isCallV,callW_is,callV_is,zB,yaj,zM,upd_s,zy,pureOp,apureO,astepO,killT,aev,cv,cvc,yak,zV,cellsA,cellOk,argT,isC,bsD,zd,↓reduceIte,zb,zk,zl,zj,zh,yaf,yag,za,zg,zq,zZ,yad,zw,zE,Value.oneCell',true_and,and_self,Nat.reduceAdd,Nat.reduceEqDiff,zz,zF,zx,Ty.td24]
    refine call_meets (valid c ts h.s) (by simp only [aev,cv,cvc,zS,zW,yah,zo,zA,zu,isC,bsD,zp] <;> rfl) ?_; simp only [yaq,zO,zK,zL,zP,zB,zM,upd_s,zy,pureOp,apureO,killT,aev,cv,cvc,zY,zQ,yae,yai,zI,zD,isC,bsD,↓reduceIte,za,zr,zi]
    simp only [yat,yac,awp_ret,zO,seqQ_r,zK,zL,zP,isCallV,zB,yaj,zM,upd_n,zy,slot.eq_1,retA_is,pureOp,apureO,astepO,killT,aev,cv,cvc,yak,zV,storeA,cellsA,cellOk,setAll,fillA,placeT,placesA,condA_t,zS,toD_nils,toD_tup,zW,zo,zA,zu,notExit,resA_nil,resA_tmp,resA_cell,oneA_2,isC,bsD,zd,↓reduceIte,zb,zf,zk,zl,zj,zh,yaa,yab,zp,zg,zq,zZ,yad,zw,zE,yar,Value.oneCell',true_and,and_self,ne_eq,not_false_eq_true,reduceCtorEq,Nat.reduceAdd,Nat.reduceEqDiff,zz,zF,zx,Ty.td3,Ty.td22,Ty.td24,hv]
  | true =>
    simp only [if_true]
    cases hf : fitsI k with
    | true =>
      rw [if_neg (by simp)]
      refine meets_of (X := true) Ty.mixed Tryz.func16 (by kernel_rfl) rfl (by kernel_rfl) (by simp) ?_; rw [Tryz.ntmps16, Tryz.results16]
      simp only [yat,yac,zO,zK,zL,zP,isCallV,callW_is,callV_is,zB,yaj,zM,upd_s,zy,pureOp,apureO,astepO,killT,aev,cv,cvc,yak,zV,cellsA,cellOk,argT,isC,bsD,zd,↓reduceIte,zb,zk,zl,zj,zh,yaf,yag,za,zg,zq,zZ,yad,zw,zE,Value.oneCell',true_and,and_self,Nat.reduceAdd,Nat.reduceEqDiff,zz,zF,zx,Ty.td24]
      refine call_meets (valid c ts h.s) (by simp only [aev,cv,cvc,zS,zW,yah,zo,zA,zu,isC,bsD,zp] <;> rfl) ?_; simp only [yaq,zO,zK,zL,zP,zB,zM,upd_s,zy,pureOp,apureO,killT,aev,cv,cvc,zY,zQ,yae,yai,zI,zD,isC,bsD,↓reduceIte,za,zr,zi]
      simp only [awp_regX,awp_skip,yac,zO,aev,cv,cvc,condA_f,isC,bsD,yan,hv]
      refine drawS_tail (by kernel_rfl) ?_; simp only [zG,isCallV,zJ,zT,zU,zB,zM,zy,keepOp,pureOp,apureO,aev,cv,cvc,isC,bsD,zd,↓reduceIte,zj,zh,za,reduceCtorEq,Nat.reduceEqDiff]
      refine calld_meets (fits k) (by simp only [aev,cv,cvc,zS,zo,zA,zu,isC,bsD,hf] <;> rfl) (by simp only [aev,cv,cvc,zY,zQ,zI,zD,isC,bsD,za,zr,zi,hf]) ?_; simp only [awp_regX,awp_skip,yac,yaq,zO,awpOpsD_nil,zG,yam,zJ,zB,zM,zy,keepOp,pureOp,apureO,aev,cv,cvc,yieldA,guardA_tf,condA_f,pickA_f,isC,bsD,↓reduceIte,zb,zf,zH,zR,yan,Nat.reduceEqDiff,hf]
      refine drawS_tail (by kernel_rfl) ?_; simp only [zG,isCallV,zJ,zT,zU,keepOp,pureOp,aev,cv,cvc,isC,bsD,zd,↓reduceIte,zj,zh,za]
      refine calld_meets (of_ 0) (by simp only [aev,cv,cvc,zS,zo,zA,zu,isC,bsD] <;> rfl) (by simp only [aev,cv,cvc,zY,yap,yau,yao,yal,zQ,zI,zD,isC,bsD,za,zN,zX,zr,and_true,zi]) ?_; simp only [zG,isCallV,zJ,zT,zU,zB,zM,zy,keepOp,pureOp,apureO,int2_is,aev,cv,cvc,yak,zV,isC,bsD,zd,↓reduceIte,zb,zk,zl,zj,zh,za,zg,zq,zw,true_and,reduceCtorEq,Nat.reduceAdd,Nat.reduceEqDiff,zz,zF,zx,Ty.td24]
      refine calld_meets (combine hks 0 [] c ts (clampI k) ⟨by simp, by simp⟩ h) (by simp only [aev,cv,cvc,zS,zW,yah,zo,zA,zu,isC,bsD,zh,zp] <;> rfl) (by simp only [aev,cv,cvc,zY,flat_tup,yap,yau,yao,yal,zQ,yae,yai,zI,zD,isC,bsD,za,zN,zX,zE,zr,and_true,and_self,zi]) ?_; simp only [awp_ret,zO,zK,zL,zG,zP,isCallV,zJ,zB,yaj,zM,upd_n,zy,retA_is,keepOp,pureOp,apureO,astepO,killT,aev,cv,cvc,yak,zV,storeA,cellsA,cellOk,setAll,zS,toD_tup,zW,yah,zo,zA,zu,notExit,resA_nil,resA_tmp,resA_cell,oneA_2,isC,bsD,zd,↓reduceIte,zb,zf,zk,zl,yaa,yab,zp,zg,zq,zN,zw,zE,true_and,and_true,and_self,Nat.reduceAdd,Nat.reduceEqDiff,zz,zF,zx,Ty.td24]
    | false =>
      cases he : eqE (c, ts) (0, []) with
      | true =>
        rw [if_neg (by simp)]
        refine meets_of (X := true) Ty.mixed Tryz.func16 (by kernel_rfl) rfl (by kernel_rfl) (by simp) ?_; rw [Tryz.ntmps16, Tryz.results16]
        simp only [yat,yac,zO,zK,zL,zP,isCallV,callW_is,callV_is,zB,yaj,zM,upd_s,zy,pureOp,apureO,astepO,killT,aev,cv,cvc,yak,zV,cellsA,cellOk,argT,isC,bsD,zd,↓reduceIte,zb,zk,zl,zj,zh,yaf,yag,za,zg,zq,zZ,yad,zw,zE,Value.oneCell',true_and,and_self,Nat.reduceAdd,Nat.reduceEqDiff,zz,zF,zx,Ty.td24]
        refine call_meets (valid c ts h.s) (by simp only [aev,cv,cvc,zS,zW,yah,zo,zA,zu,isC,bsD,zp] <;> rfl) ?_; simp only [yaq,zO,zK,zL,zP,zB,zM,upd_s,zy,pureOp,apureO,killT,aev,cv,cvc,zY,zQ,yae,yai,zI,zD,isC,bsD,↓reduceIte,za,zr,zi]
        simp only [awp_regX,awp_skip,yac,zO,aev,cv,cvc,condA_f,isC,bsD,yan,hv]
        refine drawS_tail (by kernel_rfl) ?_; simp only [zG,isCallV,zJ,zT,zU,zB,zM,zy,keepOp,pureOp,apureO,aev,cv,cvc,isC,bsD,zd,↓reduceIte,zj,zh,za,reduceCtorEq,Nat.reduceEqDiff]
        refine calld_meets (fits k) (by simp only [aev,cv,cvc,zS,zo,zA,zu,isC,bsD,hf] <;> rfl) (by simp only [aev,cv,cvc,zY,zQ,zI,zD,isC,bsD,za,zr,zi,hf]) ?_; simp only [zG,yam,isCallV,zJ,zT,zU,yav,zB,zM,zy,keepOp,pureOp,apureO,aev,cv,cvc,yak,zV,yieldA,yas,isC,bsD,zd,↓reduceIte,zb,zf,zk,zl,zj,zh,za,zH,zR,zg,zq,zw,yar,true_and,Nat.reduceAdd,Nat.reduceEqDiff,zz,zF,zx,Ty.td24,hf]
        refine calld_meets (of_ 0) (by simp only [aev,cv,cvc,zS,zo,zA,zu,isC,bsD,hf] <;> rfl) (by simp only [aev,cv,cvc,zY,yap,yau,yao,yal,zQ,zI,zD,isC,bsD,za,zN,zX,zr,and_true,zi,hf]) ?_; simp only [yam,isCallV,zJ,zT,zU,yav,zM,zy,keepOp,pureOp,aev,cv,cvc,yieldA,yas,isC,bsD,zd,↓reduceIte,zb,zf,zj,zh,za,zH,zR,Nat.reduceEqDiff,hf]
        refine calld_meets (equal c ts 0 [] (by have := h.1; omega) (by simp)) (by simp only [aev,cv,cvc,zS,zW,yah,zo,zA,zu,isC,bsD,zh,zp,he] <;> rfl) (by simp only [aev,cv,cvc,zY,zQ,yae,yai,zI,zD,isC,bsD,za,zr,zi,he]) ?_; simp only [awp_regX,awp_skip,yac,yaq,zO,awpOpsD_nil,zG,yam,zJ,yav,zB,zM,zy,keepOp,pureOp,apureO,aev,cv,cvc,yieldA,yas,condA_f,pickA_t,isC,bsD,↓reduceIte,zb,zf,zH,zR,yan,Nat.reduceEqDiff,he]
        refine drawS_tail (by kernel_rfl) ?_; simp only [zG,isCallV,zJ,zT,zU,keepOp,pureOp,aev,cv,cvc,isC,bsD,zd,↓reduceIte,zj,zh,za]
        refine calld_meets (of_ 0) (by simp only [aev,cv,cvc,zS,zo,zA,zu,isC,bsD] <;> rfl) (by simp only [aev,cv,cvc,zY,yap,yau,yao,yal,zQ,zI,zD,isC,bsD,za,zN,zX,zr,and_true,zi]) ?_; simp only [zG,isCallV,zJ,zT,zU,zB,zM,zy,keepOp,pureOp,apureO,int2_is,aev,cv,cvc,yak,zV,isC,bsD,zd,↓reduceIte,zb,zk,zl,zj,zh,za,zg,zq,zw,true_and,reduceCtorEq,Nat.reduceAdd,Nat.reduceEqDiff,zz,zF,zx,Ty.td24]
        refine calld_meets (combine hks 0 [] c ts (clampI k) ⟨by simp, by simp⟩ h) (by simp only [aev,cv,cvc,zS,zW,yah,zo,zA,zu,isC,bsD,zh,zp] <;> rfl) (by simp only [aev,cv,cvc,zY,flat_tup,yap,yau,yao,yal,zQ,yae,yai,zI,zD,isC,bsD,za,zN,zX,zE,zr,and_true,and_self,zi]) ?_; simp only [awp_ret,zO,zK,zL,zG,zP,isCallV,zJ,zB,yaj,zM,upd_n,zy,retA_is,keepOp,pureOp,apureO,astepO,killT,aev,cv,cvc,yak,zV,storeA,cellsA,cellOk,setAll,zS,toD_tup,zW,yah,zo,zA,zu,notExit,resA_nil,resA_tmp,resA_cell,oneA_2,isC,bsD,zd,↓reduceIte,zb,zf,zk,zl,yaa,yab,zp,zg,zq,zN,zw,zE,true_and,and_true,and_self,Nat.reduceAdd,Nat.reduceEqDiff,zz,zF,zx,Ty.td24]
      | false =>
        rw [if_pos ⟨rfl, rfl⟩]
        refine Meets.weak (r0 := .tup [.agg [I 0, .nils], I 3]) ?_ fun ok w v h => nilR h
        refine meets_of (X := true) Ty.mixed Tryz.func16 (by kernel_rfl) rfl (by kernel_rfl) (by simp) ?_; rw [Tryz.ntmps16, Tryz.results16]
        simp only [yat,yac,zO,zK,zL,zP,isCallV,callW_is,callV_is,zB,yaj,zM,upd_s,zy,pureOp,apureO,astepO,killT,aev,cv,cvc,yak,zV,cellsA,cellOk,argT,isC,bsD,zd,↓reduceIte,zb,zk,zl,zj,zh,yaf,yag,za,zg,zq,zZ,yad,zw,zE,Value.oneCell',true_and,and_self,Nat.reduceAdd,Nat.reduceEqDiff,zz,zF,zx,Ty.td24]
        refine call_meets (valid c ts h.s) (by simp only [aev,cv,cvc,zS,zW,yah,zo,zA,zu,isC,bsD,zp] <;> rfl) ?_; simp only [yaq,zO,zK,zL,zP,zB,zM,upd_s,zy,pureOp,apureO,killT,aev,cv,cvc,zY,zQ,yae,yai,zI,zD,isC,bsD,↓reduceIte,za,zr,zi]
        simp only [awp_regX,awp_skip,yac,zO,aev,cv,cvc,condA_f,isC,bsD,yan,hv]
        refine drawS_tail (by kernel_rfl) ?_; simp only [zG,isCallV,zJ,zT,zU,zB,zM,zy,keepOp,pureOp,apureO,aev,cv,cvc,isC,bsD,zd,↓reduceIte,zj,zh,za,reduceCtorEq,Nat.reduceEqDiff]
        refine calld_meets (fits k) (by simp only [aev,cv,cvc,zS,zo,zA,zu,isC,bsD,hf] <;> rfl) (by simp only [aev,cv,cvc,zY,zQ,zI,zD,isC,bsD,za,zr,zi,hf]) ?_; simp only [zG,yam,isCallV,zJ,zT,zU,yav,zB,zM,zy,keepOp,pureOp,apureO,aev,cv,cvc,yak,zV,yieldA,yas,isC,bsD,zd,↓reduceIte,zb,zf,zk,zl,zj,zh,za,zH,zR,zg,zq,zw,yar,true_and,Nat.reduceAdd,Nat.reduceEqDiff,zz,zF,zx,Ty.td24,hf]
        refine calld_meets (of_ 0) (by simp only [aev,cv,cvc,zS,zo,zA,zu,isC,bsD,hf] <;> rfl) (by simp only [aev,cv,cvc,zY,yap,yau,yao,yal,zQ,zI,zD,isC,bsD,za,zN,zX,zr,and_true,zi,hf]) ?_; simp only [yam,isCallV,zJ,zT,zU,yav,zM,zy,keepOp,pureOp,aev,cv,cvc,yieldA,yas,isC,bsD,zd,↓reduceIte,zb,zf,zj,zh,za,zH,zR,Nat.reduceEqDiff,hf]
        refine calld_meets (equal c ts 0 [] (by have := h.1; omega) (by simp)) (by simp only [aev,cv,cvc,zS,zW,yah,zo,zA,zu,isC,bsD,zh,zp,he] <;> rfl) (by simp only [aev,cv,cvc,zY,zQ,yae,yai,zI,zD,isC,bsD,za,zr,zi,he]) ?_; simp only [yat,yac,yaq,awp_ret,zO,seqQ_r,zK,zL,awpOpsD_nil,zG,yam,zP,isCallV,zJ,yav,zB,yaj,zM,upd_n,zy,slot.eq_1,retA_is,keepOp,pureOp,apureO,astepO,killT,aev,cv,cvc,yak,zV,storeA,cellsA,cellOk,setAll,fillA,placeT,placesA,yieldA,yas,condA_t,pickA_t,zS,toD_nils,toD_tup,zW,zo,zA,zu,notExit,resA_nil,resA_tmp,resA_cell,oneA_2,isC,bsD,zd,↓reduceIte,zb,zf,zk,zl,zj,zh,yaa,yab,zH,zR,zp,zg,zq,zZ,yad,zw,zE,yar,Value.oneCell',true_and,and_self,ne_eq,not_false_eq_true,reduceCtorEq,Nat.reduceAdd,Nat.reduceEqDiff,zz,zF,zx,Ty.td3,Ty.td22,Ty.td24,he]

/-! Strictly sorted lists of terms. -/
def ltB (a b : ByteArray) : Prop := bs a < bs b
def sortedT : List Tm → Prop
  | [] => True
  | t :: r => (∀ u ∈ r, ltB t.1 u.1) ∧ t.2 ≠ 0 ∧ sortedT r
theorem ltB_irr (a : ByteArray) : ¬ ltB a a := List.lt_irrefl _
theorem aget_not {v : ByteArray} : ∀ {l : List Tm}, (∀ u ∈ l, u.1 ≠ v) → aget v l = 0
  | [], _ => rfl
  | t :: r, h => by
    rw [aget, if_neg (h t List.mem_cons_self)]
    exact aget_not fun u hu => h u (List.mem_cons_of_mem _ hu)
theorem aget_lt {v : ByteArray} {l : List Tm} (h : ∀ u ∈ l, ltB v u.1) : aget v l = 0 := aget_not fun u hu e => ltB_irr v (by have := h u hu; rwa [e] at this)
theorem aget_ne {v : ByteArray} : ∀ {l : List Tm}, aget v l ≠ 0 → ∃ u ∈ l, u.1 = v ∧ u.2 = aget v l
  | [], h => absurd rfl h
  | t :: r, h => by
    rw [aget] at h ⊢
    by_cases e : t.1 = v
    · rw [if_pos e] at h ⊢
      exact ⟨t, List.mem_cons_self, e, rfl⟩
    · rw [if_neg e] at h ⊢
      obtain ⟨u, hu, h1, h2⟩ := aget_ne h
      exact ⟨u, List.mem_cons_of_mem _ hu, h1, h2⟩
theorem sorted_same : ∀ {x y : List Tm}, sortedT x → sortedT y → (∀ v, aget v x = aget v y) → x = y
  | [], [], _, _, _ => rfl
  | [], t :: r, _, hy, h => by
    have := h t.1
    rw [aget, aget, if_pos rfl] at this
    exact absurd this.symm hy.2.1
  | t :: r, [], hx, _, h => by
    have := h t.1
    rw [aget, aget, if_pos rfl] at this
    exact absurd this hx.2.1
  | t :: r, u :: q, hx, hy, h => by
    have e : t.1 = u.1 := by
      rcases Decidable.em (t.1 = u.1) with e | e
      · exact e
      · exfalso
        have h1 := h t.1
        rw [aget, if_pos rfl, aget, if_neg fun e' => e e'.symm] at h1
        obtain ⟨a, ha, e1, _⟩ := aget_ne (v := t.1) (l := q) (by rw [← h1]; exact hx.2.1)
        have l1 := hy.1 a ha
        rw [e1] at l1
        have h2 := h u.1
        rw [aget, if_neg e, aget, if_pos rfl] at h2
        obtain ⟨b, hb, e2, _⟩ := aget_ne (v := u.1) (l := r) (by rw [h2]; exact hy.2.1)
        have l2 := hx.1 b hb
        rw [e2] at l2
        exact ltB_irr t.1 (List.lt_trans l2 l1)
    have e2 : t.2 = u.2 := by
      have := h t.1
      rwa [aget, if_pos rfl, aget, if_pos e.symm] at this
    have ht : t = u := Prod.ext e e2
    subst ht
    congr 1
    refine sorted_same hx.2.2 hy.2.2 fun v => ?_
    have := h v
    rw [aget, aget] at this
    by_cases ev : t.1 = v
    · subst ev
      rw [aget_lt hx.1, aget_lt hy.1]
    · rwa [if_neg ev, if_neg ev] at this

/-! What a sum comes to is sorted. -/
def ppick (cs : List Tm) (v : ByteArray) : Option Tm := if aget v cs = 0 then none else some (v, aget v cs)
theorem pick_sorted (cs : List Tm) : ∀ (l : List ByteArray), l.Pairwise ltB → sortedT (l.filterMap (ppick cs)) ∧ ∀ u ∈ l.filterMap (ppick cs), u.1 ∈ l
  | [], _ => ⟨trivial, by simp⟩
  | v :: r, h => by
    obtain ⟨h1, h2⟩ := List.pairwise_cons.1 h
    obtain ⟨i1, i2⟩ := pick_sorted cs r h2
    rw [List.filterMap_cons]
    unfold ppick at *
    by_cases e : aget v cs = 0
    · rw [if_pos e]
      exact ⟨i1, fun u hu => List.mem_cons_of_mem _ (i2 u hu)⟩
    · rw [if_neg e]
      refine ⟨⟨fun u hu => h1 _ (i2 u hu), e, i1⟩, fun u hu => ?_⟩
      rcases List.mem_cons.1 hu with rfl | hu
      · exact List.mem_cons_self
      · exact List.mem_cons_of_mem _ (i2 u hu)
theorem pick_get (cs : List Tm) (v : ByteArray) : ∀ (l : List ByteArray), (v ∈ l → aget v (l.filterMap (ppick cs)) = aget v cs) ∧ (v ∉ l → aget v (l.filterMap (ppick cs)) = 0)
  | [] => ⟨fun h => (by cases h), fun _ => rfl⟩
  | u :: r => by
    obtain ⟨i1, i2⟩ := pick_get cs v r
    by_cases e : u = v
    · subst e
      rw [List.filterMap_cons]
      refine ⟨fun _ => ?_, fun h => absurd List.mem_cons_self h⟩
      by_cases h0 : aget u cs = 0
      · rw [show ppick cs u = none from if_pos h0]
        simp only
        rcases Classical.em (u ∈ r) with h | h
        · exact i1 h
        · rw [i2 h, h0]
      · rw [show ppick cs u = some (u, aget u cs) from if_neg h0]
        simp only
        rw [aget, if_pos rfl]
    · have e' : aget v ((u :: r).filterMap (ppick cs)) = aget v (r.filterMap (ppick cs)) := by
        rw [List.filterMap_cons]
        by_cases h0 : aget u cs = 0
        · rw [show ppick cs u = none from if_pos h0]
        · rw [show ppick cs u = some (u, aget u cs) from if_neg h0]
          simp only
          rw [aget, if_neg e]
      refine ⟨fun h => ?_, fun h => ?_⟩
      · refine e'.trans ?_
        rcases List.mem_cons.1 h with h | h
        · exact absurd h.symm e
        · exact i1 h
      · refine e'.trans ?_
        exact i2 fun h' => h (List.mem_cons_of_mem _ h')
theorem sortK_lt {cs : List Tm} (h : keysD cs) : (sortK cs).Pairwise ltB := by
  rw [sortK_is, List.pairwise_map]
  have hn : (isort (cs.map fun t => bs t.1)).Nodup := by
    rw [(isort_perm _).nodup_iff]
    unfold keysD at h
    unfold List.Nodup at h ⊢
    rw [List.pairwise_map] at h ⊢
    exact h.imp fun hne e => hne (bs_inj e)
  refine (List.Pairwise.and (isort_sorted (cs.map fun t : Tm => bs t.1)) (show List.Pairwise (fun a b => a ≠ b) _ from hn)).imp ?_
  rintro a b ⟨h1, h2⟩
  unfold ltB
  rw [bs_ofL, bs_ofL]
  rcases Decidable.em (a < b) with h3 | h3
  · exact h3
  · exact absurd (leB_as h1 (decide_eq_true (List.not_lt.1 h3))) h2
theorem sortK_memi {cs : List Tm} {v : ByteArray} : v ∈ sortK cs ↔ v ∈ cs.map (·.1) := by
  rw [sortK_is]
  constructor
  · intro h
    obtain ⟨l, hl, rfl⟩ := List.mem_map.1 h
    rw [(isort_perm _).mem_iff] at hl
    obtain ⟨t, ht, rfl⟩ := List.mem_map.1 hl
    rw [ofL_bs]
    exact List.mem_map_of_mem ht
  · intro h
    obtain ⟨t, ht, rfl⟩ := List.mem_map.1 h
    refine List.mem_map.2 ⟨bs t.1, ?_, ofL_bs _⟩
    rw [(isort_perm _).mem_iff]
    exact List.mem_map.2 ⟨t, ht, rfl⟩
theorem linT_sorted {cs : List Tm} (h : keysD cs) : sortedT (linT cs) := (pick_sorted cs (sortK cs) (sortK_lt h)).1
theorem linT_get (cs : List Tm) (v : ByteArray) : aget v (linT cs) = aget v cs := by
  rcases Classical.em (v ∈ sortK cs) with h | h
  · exact (pick_get cs v (sortK cs)).1 h
  · refine ((pick_get cs v (sortK cs)).2 h).trans (aget_not fun u hu e => ?_).symm
    exact h (sortK_memi.2 (List.mem_map.2 ⟨u, hu, e⟩))

/-! The reference's sums. -/
def insP (s : ByteArray) (c : Int) : List Tm → List Tm
  | [] => [(s, c)]
  | t :: r => if bs s < bs t.1 then (s, c) :: t :: r else if t.1 = s then (s, W (t.2 + c)) :: r else t :: insP s c r
def plusT (s : ByteArray) (c : Int) (l : List Tm) : List Tm := (insP s c l).filter fun t => !decide (t.2 = 0)
def timesT (k : Int) : List Tm → List Tm → List Tm
  | [], l => l
  | t :: r, l => timesT k r (plusT t.1 (W (k * t.2)) l)
def risT : List Tm → Prop
  | [] => True
  | t :: r => (∀ u ∈ r, ltB t.1 u.1) ∧ risT r
theorem insP_mem {s : ByteArray} {c : Int} : ∀ {l : List Tm} {u : Tm}, u ∈ insP s c l → u.1 = s ∨ ∃ w ∈ l, w.1 = u.1
  | [], u, h => by simp [insP] at h; exact Or.inl (by rw [h])
  | t :: r, u, h => by
    unfold insP at h
    split at h
    · rcases List.mem_cons.1 h with rfl | h
      · exact Or.inl rfl
      · exact Or.inr ⟨u, h, rfl⟩
    · split at h
      · rcases List.mem_cons.1 h with rfl | h
        · exact Or.inl rfl
        · exact Or.inr ⟨u, List.mem_cons_of_mem _ h, rfl⟩
      · rcases List.mem_cons.1 h with rfl | h
        · exact Or.inr ⟨u, List.mem_cons_self, rfl⟩
        · rcases insP_mem h with h | ⟨w, hw, e⟩
          · exact Or.inl h
          · exact Or.inr ⟨w, List.mem_cons_of_mem _ hw, e⟩
theorem insP_ris (s : ByteArray) (c : Int) : ∀ {l : List Tm}, risT l → risT (insP s c l)
  | [], _ => ⟨by simp, trivial⟩
  | t :: r, h => by
    unfold insP
    split
    · rename_i hlt
      refine ⟨fun u hu => ?_, h⟩
      rcases List.mem_cons.1 hu with rfl | hu
      · exact hlt
      · exact List.lt_trans hlt (h.1 u hu)
    · rename_i hnl
      split
      · rename_i e
        subst e
        exact ⟨h.1, h.2⟩
      · rename_i hne
        refine ⟨fun u hu => ?_, insP_ris s c h.2⟩
        rcases insP_mem hu with e | ⟨w, hw, e⟩
        · rw [e]
          unfold ltB
          rcases Decidable.em (bs t.1 < bs s) with h3 | h3
          · exact h3
          · exact absurd (bs_inj (List.le_antisymm (List.not_lt.1 hnl) (List.not_lt.1 h3))) hne
        · rw [← e]
          exact h.1 w hw
theorem ris_filter : ∀ {l : List Tm}, risT l → sortedT (l.filter fun t => !decide (t.2 = 0))
  | [], _ => trivial
  | t :: r, h => by
    rw [List.filter_cons]
    split
    · rename_i h0
      exact ⟨fun u hu => h.1 u (List.mem_filter.1 hu).1, by simpa using h0, ris_filter h.2⟩
    · exact ris_filter h.2
theorem sorted_ris : ∀ {l : List Tm}, sortedT l → risT l
  | [], _ => trivial
  | t :: r, h => ⟨h.1, sorted_ris h.2.2⟩
theorem get_filter (v : ByteArray) : ∀ {l : List Tm}, risT l → aget v (l.filter fun t => !decide (t.2 = 0)) = aget v l
  | [], _ => rfl
  | t :: r, h => by
    have ih := get_filter v h.2
    rw [List.filter_cons]
    by_cases h0 : t.2 = 0
    · rw [if_neg (by simp [h0]), ih, aget]
      by_cases e : t.1 = v
      · rw [if_pos e, h0]
        subst e
        exact aget_lt h.1
      · rw [if_neg e]
    · rw [if_pos (by simp [h0]), aget, aget, ih]
theorem insP_get (s : ByteArray) (c : Int) (hc : W c = c) (v : ByteArray) : ∀ {l : List Tm}, risT l → aget v (insP s c l) = if v = s then W (aget s l + c) else aget v l
  | [], _ => by
    show (if s = v then c else 0) = if v = s then W (0 + c) else 0
    by_cases e : s = v
    · rw [if_pos e, if_pos e.symm, Int.zero_add, hc]
    · rw [if_neg e, if_neg fun h => e h.symm]
  | t :: r, h => by
    unfold insP
    split
    · rename_i hlt
      rw [aget]
      by_cases e : s = v
      · have h0 : aget s (t :: r) = 0 := aget_lt fun u hu => by
          rcases List.mem_cons.1 hu with rfl | hu
          · exact hlt
          · exact List.lt_trans hlt (h.1 u hu)
        rw [if_pos e, if_pos e.symm, h0, Int.zero_add, hc]
      · rw [if_neg e, if_neg fun h => e h.symm]
    · split
      · rename_i e0
        subst e0
        rw [aget, aget, if_pos rfl]
        by_cases e : t.1 = v
        · rw [if_pos e, if_pos e.symm]
        · rw [if_neg e, if_neg fun h => e h.symm, aget, if_neg e]
      · rename_i hne
        have ih := insP_get s c hc v h.2
        rw [aget, ih, aget, if_neg hne, aget]
        by_cases e : t.1 = v
        · rw [if_pos e, if_pos e, if_neg fun h => hne (e.trans h)]
        · rw [if_neg e, if_neg e]
theorem plus_sorted (s : ByteArray) (c : Int) {l : List Tm} (h : sortedT l) : sortedT (plusT s c l) := ris_filter (insP_ris s c (sorted_ris h))
theorem plus_get (s : ByteArray) (c : Int) (hc : W c = c) (v : ByteArray) {l : List Tm} (h : sortedT l) : aget v (plusT s c l) = if v = s then W (aget s l + c) else aget v l := by
  unfold plusT
  rw [get_filter v (insP_ris s c (sorted_ris h)), insP_get s c hc v (sorted_ris h)]
theorem aput_get (s : ByteArray) (x : Int) (v : ByteArray) : ∀ (cs : List Tm), aget v (aput s x cs) = if v = s then x else aget v cs
  | [] => by
    show (if s = v then x else 0) = if v = s then x else 0
    by_cases e : s = v
    · rw [if_pos e, if_pos e.symm]
    · rw [if_neg e, if_neg fun h => e h.symm]
  | t :: r => by
    unfold aput
    split
    · rename_i e0
      rw [aget]
      by_cases e : s = v
      · rw [if_pos e, if_pos e.symm]
      · rw [if_neg e, if_neg fun h => e h.symm, aget, if_neg (e0 ▸ e)]
    · rename_i hne
      rw [aget, aput_get s x v r, aget]
      by_cases e : t.1 = v
      · rw [if_pos e, if_pos e, if_neg fun h => hne (e.trans h)]
      · rw [if_neg e, if_neg e]
theorem W_W (x : Int) : W (W x) = W x := by
  show IntKind.i64.wrap (IntKind.i64.wrap x) = IntKind.i64.wrap x
  apply wrap_in <;> (rw [IntKind.wrap_i64]; omega)
theorem times_get (k : Int) : ∀ (ts : List Tm) {l cs : List Tm}, sortedT l → (∀ v, aget v l = aget v cs) → sortedT (timesT k ts l) ∧ ∀ v, aget v (timesT k ts l) = aget v (addT k ts cs)
  | [], l, cs, h, he => ⟨h, he⟩
  | t :: r, l, cs, h, he => by
    refine times_get k r (plus_sorted t.1 (W (k * t.2)) h) fun v => ?_
    rw [plus_get t.1 (W (k * t.2)) (W_W _) v h, aput_get, he, he]
theorem times_is (k : Int) (ts : List Tm) {l cs : List Tm} (h : sortedT l) (hc : keysD cs) (he : ∀ v, aget v l = aget v cs) : timesT k ts l = linT (addT k ts cs) := by
  obtain ⟨h1, h2⟩ := times_get k ts h he
  exact sorted_same h1 (linT_sorted (addT_d k ts hc)) fun v => by rw [h2, linT_get]

end Go.Proofs.YtjgaebomcdkohaaGreatDoor.L19
