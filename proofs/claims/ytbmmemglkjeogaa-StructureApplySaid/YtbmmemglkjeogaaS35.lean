/- Structure: index and update in the reference. -/
import Derived.Test.YtbmmemglkjeogaaS34
import Derived.Test.YtbmmemglkjeogaaS12
namespace Go.Proofs.Ytbmmemglkjeogaa.S35
open Go Go.Proofs.Ytbmmemglkjeogaa.Eng Go.Proofs.Ytbmmemglkjeogaa Go.RowKit Go.Proofs.Ytbmmemglkjeogaa.A1 Go.Proofs.Ytbmmemglkjeogaa.A2 Go.Proofs.Ytbmmemglkjeogaa.A3 Go.Proofs.Ytbmmemglkjeogaa.A4 Go.Proofs.Ytbmmemglkjeogaa.A5 Go.Proofs.Ytbmmemglkjeogaa.S1 Go.Proofs.Ytbmmemglkjeogaa.S2 Go.Proofs.Ytbmmemglkjeogaa.S3 Go.Proofs.Ytbmmemglkjeogaa.S4 Go.Proofs.Ytbmmemglkjeogaa.S5 Go.Proofs.Ytbmmemglkjeogaa.S6 Go.Proofs.Ytbmmemglkjeogaa.S7 Go.Proofs.Ytbmmemglkjeogaa.S8 Go.Proofs.Ytbmmemglkjeogaa.S9 Go.Proofs.Ytbmmemglkjeogaa.S10 Go.Proofs.Ytbmmemglkjeogaa.S11 Go.Proofs.Ytbmmemglkjeogaa.S12
open _root_.List renaming getElem?_cons_zero → za, getElem?_cons_succ → zb, length_nil → zd, map_cons → ze, map_nil → zf, append_nil → zg, take_succ_cons → zi, nil_append → zj, length_cons → zk, drop_zero → zl, set_cons_zero → zo, drop_succ_cons → zq, take_nil → zr, getElem?_toArray → zB, set_cons_succ → zD, cons_append → zI, length_map → zJ, all_cons → zO, all_nil → zS, not_mem_nil → zY, isEmpty_nil → zZ, zipIdx_nil → yab, isEmpty_cons → yah, mem_cons → yaj, zipIdx_cons → yak, range_zero → yam
open _root_.Bool renaming false_eq_true → zc, and_self → zh, true_and → zm, and_true → zP, not_false → zT, and_false → zU, not_true → yaa, or_false → yai
open _root_.Nat renaming zero_add → zn, le_refl → zt
open _root_.Option renaming map_some → zp, bind_some → zN, isSome_some → yag, map_none → yap
open _root_.Go.Proofs.Ytbmmemglkjeogaa.Eng renaming awpOps_nil → zu, awpOps_one → zw, consO_some → zx, toDL_cons → zy, awpOp_is → zz, toDL_nil → zA, awp_reg → zE, awp_seq → zF, putK_is → zG, slot_is → zH, updK_is → zL, seqQ_n → zM, ownsL_nil → zQ, ownsL_cons → zR, put_s → zV, upd_s → zW, elO_s → zX, awp_cond → yac, callW_is → yad, callV_is → yae, toD_sl → yaf, loadA_d → yal, toD_c → yan, flatL_cons → yao, awp_skip → yaq, flat_sl → yar, resA_nil → yas, resA_tmp → yat, awpOps_if → yau, flatL_nil → yav, resA_cell → yaw, killV_nils → yax, condA_f → yay, awp_ret → yaz, flat_tup → yaA, flat_agg → yaB, ownsV_sl → yaC
open _root_.Int renaming le_refl → zK
set_option linter.unusedSimpArgs false
set_option linter.unusedVariables false
set_option linter.unusedSectionVars false
set_option maxRecDepth 100000

/-- The reference's index. -/
theorem index_ (e el f1 f2 : ByteArray) (n t v : Int) (xs : List Int) (hx : is_index e = true) (hn : (xs.length : Int) = n) (hv : (insideE t n = true ∧ xs[t.toNat]? = some v) ∨ (insideE t n = false ∧ v = 0)) (hc : checkE el [] [v] = 0) :
    Meets Try.prog 42 [S e, S el, arrs [(f1, [n], xs), (f2, [], [t])]] (.tup [arr el [] [v], B (!insideE t n), I 0]) := by
  have ho := refOf el [] [v] (by simp) (by simp)
  unfold ofE at ho
  rw [if_pos hc] at ho
  simp only [ints,ze,zf] at ho
  subst hn
  by_cases h0 : t < 0
  · have hi : insideE t (xs.length : Int) = false := by unfold insideE; simp; omega
    rw [hi] at hv ⊢
    obtain rfl : v = 0 := by simpa using hv
    refine meets_of (X := true) Ty.mixed Try.func42 (by kernel_rfl) rfl (by kernel_rfl) (by simp) ?_; rw [Try.ntmps42, Try.results42]
    simp only [yaq,zE,zF,yac,zM,zu,zw,yau,zz,isCallV,yad,yae,zG,zL,zV,zW,zH,slot.eq_1,pureOp,apureO,astepO,bsEnd_is,killT,aev,cv,cvc,binK,zX,yal,cellsA,cellOk,setAll,fillA,yieldA,guardA_ft,condA_t,yay,pickA_t,chunk,isD_c,isDL_nil,isDL_cons,argT,zc,↓reduceIte,za,zb,zk,zd,ze,zf,zI,zj,zg,zo,zB,zN,zi,zq,zl,zO,zS,zm,zh,yaa,zT,Value.oneCell',true_and,and_self,ne_eq,not_false_eq_true,reduceCtorEq,Nat.reduceAdd,Nat.reduceMul,Nat.reduceLT,Nat.reduceLeDiff,Nat.reduceEqDiff,Nat.reduceMod,zn,Int.reduceToNat,List.range_succ,yam,decide_true,zt,zr,zK,Ty.td3,Ty.td22,Ty.td25,Ty.td29,arrs,encA,h0,hx]
    repeat refine ⟨by omega, ?_⟩
    refine call_meets (Meets.nil (pre := [S el]) (post := [.sl false 1 [[I 0]]]) ho) (by simp only [aev,cv,cvc,elemsA,yan,toD_nils,toD_own,zx,zA,zy,↓reduceIte,za,zb,zk,zd,zI,zj,zp,zi,zh,and_self,zn,zt,zr] <;> rfl) ?_
    simp only [zE,zF,yaz,zM,seqQ_r,zu,zw,zz,isCallV,zG,zL,zV,upd_n,zW,zH,retA_is,pureOp,apureO,astepO,killT,killB,killH,aev,cv,cvc,zX,loadA_p,storeA,cellsA,cellOk,setAll,elemsA,dropL,flat_c,yaA,yaB,yar,yav,yao,ownsV_c,ownsV_nils,ownsV_own,zQ,zR,yan,toD_tup,toD_agg,yaf,zx,zA,zy,killV_c,yax,killV_tup,killV_sl,killV_own,killV_dptr,killV_ptr,killL_nil,killL_cons,notExit,yas,yat,yaw,oneA_2,zc,↓reduceIte,za,zb,zk,zd,ze,zf,zj,zg,zo,zD,zp,yap,zi,zl,zP,zm,zU,zh,yai,Value.oneCell',true_and,and_true,and_self,reduceCtorEq,Nat.reduceAdd,Nat.reduceLeDiff,Nat.reduceEqDiff,zn,yah,yaj,zY,or_false,yak,yab,zt,zr,Ty.td29]
    try simp
  · by_cases h1 : t < (xs.length : Int)
    · have hi : insideE t (xs.length : Int) = true := by unfold insideE; simp; omega
      rw [hi] at hv ⊢
      have hd : xs[t.toNat]? = some v := by simpa using hv
      refine meets_of (X := true) Ty.mixed Try.func42 (by kernel_rfl) rfl (by kernel_rfl) (by simp) ?_; rw [Try.ntmps42, Try.results42]
      simp only [zE,zF,yac,zM,zu,zw,yau,zz,isCallV,yad,yae,awpO_is,zG,zL,zV,zW,zH,slot.eq_1,pureOp,apureO,astepO,bsEnd_is,killT,aev,cv,cvc,binK,zX,elO_none,lenA,lenK,yal,cellsA,cellOk,setAll,fillA,yieldA,guardA_ff,condA_t,pickA_f,chunk,isD_c,isDL_nil,isDL_cons,argT,zc,↓reduceIte,za,zb,zk,zd,ze,zf,zI,zj,zg,zo,zB,zN,zp,Option.getD_some,zi,zq,zl,zO,zS,zP,zm,zh,yaa,zT,Value.oneCell',true_and,and_true,and_self,ne_eq,not_false_eq_true,reduceCtorEq,Nat.reduceAdd,Nat.reduceMul,Nat.reduceLT,Nat.reduceLeDiff,Nat.reduceEqDiff,Nat.reduceMod,zn,Int.reduceToNat,List.range_succ,yam,yag,decide_false,zt,zr,zK,Ty.td3,Ty.td22,Ty.td25,Ty.td29,arrs,encA,h0,hx,show ¬ ((xs.length : Int) ≤ t) by omega,List.getElem?_map,hd,zJ]
      repeat refine ⟨by omega, ?_⟩
      refine call_meets (Meets.nil (pre := [S el]) (post := [.sl false 1 [[I v]]]) ho) (by simp only [aev,cv,cvc,elemsA,yan,toD_nils,toD_own,zx,zA,zy,↓reduceIte,za,zb,zk,zd,zI,zj,zp,zi,zh,and_self,zn,zt,zr] <;> rfl) ?_
      simp only [zE,zF,yaz,zM,seqQ_r,zu,zw,zz,isCallV,zG,zL,zV,upd_n,zW,zH,retA_is,pureOp,apureO,astepO,killT,killB,killH,aev,cv,cvc,zX,loadA_p,storeA,cellsA,cellOk,setAll,elemsA,dropL,flat_c,yaA,yaB,yar,yav,yao,ownsV_c,ownsV_nils,ownsV_own,zQ,zR,yan,toD_tup,toD_agg,yaf,zx,zA,zy,killV_c,yax,killV_sl,killV_own,killV_dptr,killV_ptr,killL_nil,killL_cons,notExit,yas,yat,yaw,oneA_2,zc,↓reduceIte,za,zb,zk,zd,ze,zf,zj,zg,zo,zD,zp,yap,zi,zl,zP,zm,zU,zh,yai,Value.oneCell',true_and,and_true,and_self,reduceCtorEq,Nat.reduceAdd,Nat.reduceLeDiff,Nat.reduceEqDiff,zn,yah,yaj,zY,or_false,yak,yab,zt,zr,Ty.td29]
      try simp
    · have hi : insideE t (xs.length : Int) = false := by unfold insideE; simp; omega
      rw [hi] at hv ⊢
      obtain rfl : v = 0 := by simpa using hv
      refine meets_of (X := true) Ty.mixed Try.func42 (by kernel_rfl) rfl (by kernel_rfl) (by simp) ?_; rw [Try.ntmps42, Try.results42]
      simp only [yaq,zE,zF,yac,zM,zu,zw,yau,zz,isCallV,yad,yae,awpO_is,zG,zL,zV,zW,zH,slot.eq_1,pureOp,apureO,astepO,bsEnd_is,killT,aev,cv,cvc,binK,zX,elO_none,lenA,lenK,yal,cellsA,cellOk,setAll,fillA,yieldA,guardA_ff,condA_t,yay,pickA_f,chunk,isD_c,isDL_nil,isDL_cons,argT,zc,↓reduceIte,za,zb,zk,zd,ze,zf,zI,zj,zg,zo,zB,zN,zi,zq,zl,zO,zS,zm,zh,yaa,zT,Value.oneCell',true_and,and_self,ne_eq,not_false_eq_true,reduceCtorEq,Nat.reduceAdd,Nat.reduceMul,Nat.reduceLT,Nat.reduceLeDiff,Nat.reduceEqDiff,Nat.reduceMod,zn,Int.reduceToNat,List.range_succ,yam,yag,decide_true,decide_false,zt,zr,zK,Ty.td3,Ty.td22,Ty.td25,Ty.td29,arrs,encA,h0,hx,show ((xs.length : Int) ≤ t) by omega,zJ]
      repeat refine ⟨by omega, ?_⟩
      refine call_meets (Meets.nil (pre := [S el]) (post := [.sl false 1 [[I 0]]]) ho) (by simp only [aev,cv,cvc,elemsA,yan,toD_nils,toD_own,zx,zA,zy,↓reduceIte,za,zb,zk,zd,zI,zj,zp,zi,zh,and_self,zn,zt,zr] <;> rfl) ?_
      simp only [zE,zF,yaz,zM,seqQ_r,zu,zw,zz,isCallV,zG,zL,zV,upd_n,zW,zH,retA_is,pureOp,apureO,astepO,killT,killB,killH,aev,cv,cvc,zX,loadA_p,storeA,cellsA,cellOk,setAll,elemsA,dropL,flat_c,yaA,yaB,yar,yav,yao,ownsV_c,ownsV_nils,ownsV_own,zQ,zR,yan,toD_tup,toD_agg,yaf,zx,zA,zy,killV_c,yax,killV_sl,killV_own,killV_dptr,killV_ptr,killL_nil,killL_cons,notExit,yas,yat,yaw,oneA_2,zc,↓reduceIte,za,zb,zk,zd,ze,zf,zj,zg,zo,zD,zp,yap,zi,zl,zP,zm,zU,zh,yai,Value.oneCell',true_and,and_true,and_self,reduceCtorEq,Nat.reduceAdd,Nat.reduceLeDiff,Nat.reduceEqDiff,zn,yah,yaj,zY,or_false,yak,yab,zt,zr,Ty.td29]
      try simp
theorem copyO (zs : List Int) (hz : zs.length ≤ 1000000) : MeetsO Try.prog 81 [ints zs] (.own 0 1 zs.length) [some (.row 3 1 (zs.map enc))] := by
  refine meetsO_of (X := false) Ty.mixed Try.func81 (by kernel_rfl) rfl (by kernel_rfl) (by simp) ?_; rw [Try.ntmps81, Try.results81]
  simp only [zE,zF,yaz,zM,zu,zw,zz,isCallV,retO_is,zG,zL,zV,zW,zH,slot.eq_1,pureOp,apureO,astepO,bsF2_is,bsF1_is,bsEnd_is,appA_sl,appV,killT,killB,killH,aev,cv,cvc,zX,fillA,elemsA,elemsN,rowE,chunk,dropL,isDL_nil,zQ,zA,yax,killV_sl,killV_own,notExit,yas,yat,oneA_1,argT,zc,↓reduceIte,za,zk,zd,ze,zf,zj,zo,zp,zO,zS,zm,zh,yai,Value.oneCell',true_and,and_self,reduceCtorEq,Nat.reduceMul,Nat.reduceLT,Nat.reduceLeDiff,Nat.reduceEqDiff,zn,yaj,zY,or_false,yam,yab,zt,zr,List.zip_nil_right,List.getElem?_nil,Ty.td3,Ty.td22,zJ,zd]
  refine ⟨by omega, by omega, ?_⟩
  simp [WeakH, refsV, refsH]


/-- The reference's update. -/
theorem update_ (e el f1 f2 f3 : ByteArray) (n t v : Int) (xs ys : List Int) (hx : is_index e = false) (hn : (xs.length : Int) = n) (hl : xs.length ≤ 4096) (hv : ys = if insideE t n = true then xs.set t.toNat v else xs) (hc : checkE el [n] ys = 0) :
    Meets Try.prog 42 [S e, S el, arrs [(f1, [n], xs), (f2, [], [t]), (f3, [], [v])]] (.tup [arr el [n] ys, B (!insideE t n), I 0]) := by
  have hyl : ys.length = xs.length := by rw [hv]; split <;> simp
  have ho := refOf el [n] ys (by simp) (by omega)
  unfold ofE at ho
  rw [if_pos hc] at ho
  have hcp := refCopy xs (by omega)
  subst hn
  by_cases h0 : t < 0
  · have hi : insideE t (xs.length : Int) = false := by unfold insideE; simp; omega
    rw [hi] at hv ⊢
    have hv' : ys = xs := by simpa using hv
    rw [hv'] at ho ⊢
    clear hv hv' hyl
    refine meets_of (X := true) Ty.mixed Try.func42 (by kernel_rfl) rfl (by kernel_rfl) (by simp) ?_; rw [Try.ntmps42, Try.results42]
    simp only [yaq,zE,zF,yac,zM,zu,zw,yau,zz,isCallV,yad,yae,zG,zL,zV,zW,zH,pureOp,apureO,astepO,killT,aev,cv,cvc,binK,zX,yal,yieldA,guardA_ft,yay,pickA_t,argT,zc,↓reduceIte,za,zb,zd,ze,zf,zj,zg,zB,zN,zq,zl,zO,zS,zm,zh,zT,Value.oneCell',true_and,and_self,ne_eq,not_false_eq_true,reduceCtorEq,Nat.reduceAdd,Nat.reduceEqDiff,zn,Int.reduceToNat,decide_true,zK,Ty.td3,Ty.td22,Ty.td25,Ty.td29,arrs,encA,h0,hx]
    repeat refine ⟨by omega, ?_⟩
    refine call_meets (hcp) (by simp only [aev,cv,cvc,yaf,zx,zA,zy] <;> rfl) ?_; simp only [yaq,zE,zF,yac,zM,zu,zw,zz,isCallV,yad,yae,zG,zV,zW,zH,pureOp,apureO,killT,aev,cv,cvc,zX,yal,yay,yar,yaC,zQ,zR,zc,↓reduceIte,za,zb,ze,zf,zg,zq,zl,zm,Bool.or_true,yaa,true_and,ne_eq,not_false_eq_true,reduceCtorEq,Nat.reduceEqDiff,zZ,Int.reduceToNat,zK,Ty.td22,Ty.td25,Ty.td29]
    repeat refine ⟨by omega, ?_⟩
    refine call_meets (ho) (by simp only [aev,cv,cvc,yan,yaf,zx,zA,zy,ze,zf] <;> rfl) ?_; simp only [zE,zF,yaz,zM,zu,zw,zz,isCallV,zG,zL,zV,upd_n,zW,zH,retA_is,pureOp,apureO,astepO,killT,aev,cv,cvc,zX,loadA_p,storeA,cellsA,cellOk,setAll,flat_c,yaA,yaB,yar,yav,yao,ownsV_c,yaC,zQ,zR,yan,toD_tup,toD_agg,yaf,zx,zA,zy,notExit,yas,yat,yaw,oneA_2,zc,↓reduceIte,za,zb,zk,zd,ze,zf,zg,zo,zD,zp,zi,zl,zP,zm,zU,zh,Bool.or_true,Value.oneCell',true_and,and_true,and_self,Nat.reduceAdd,Nat.reduceLeDiff,Nat.reduceEqDiff,zn,zZ,zt,zr,Ty.td29]
    try simp
  · by_cases h1 : t < (xs.length : Int)
    · have hi : insideE t (xs.length : Int) = true := by unfold insideE; simp; omega
      rw [hi] at hv ⊢
      have hv' : ys = xs.set t.toNat v := by simpa using hv
      have htl : t.toNat < xs.length := by omega
      have hcp := copyO xs (by omega)
      have hg : xs[t.toNat]? = some (xs.getD t.toNat 0) := by rw [List.getD_eq_getElem?_getD, List.getElem?_eq_getElem htl]; rfl
      generalize xs.getD t.toNat 0 = g at *
      have htx : List.take xs.length ((List.map enc xs).set t.toNat [I v]) = List.map enc ys := by rw [List.take_of_length_le (by simp), hv', List.map_set]
      refine meets_of (X := true) Ty.mixed Try.func42 (by kernel_rfl) rfl (by kernel_rfl) (by simp) ?_; rw [Try.ntmps42, Try.results42]
      simp only [yaq,zE,zF,yac,zM,zu,zw,yau,zz,isCallV,yad,yae,awpO_is,zG,zL,zV,zW,zH,pureOp,apureO,astepO,killT,aev,cv,cvc,binK,zX,elO_none,lenA,lenK,yal,yieldA,guardA_ff,yay,pickA_f,argT,zc,↓reduceIte,za,zb,zd,ze,zf,zj,zg,zB,zN,zq,zl,zO,zS,zm,zh,yaa,Value.oneCell',true_and,and_self,ne_eq,not_false_eq_true,reduceCtorEq,Nat.reduceAdd,Nat.reduceEqDiff,zn,Int.reduceToNat,yag,decide_false,zK,Ty.td3,Ty.td22,Ty.td25,Ty.td29,arrs,encA,h0,hx,show ¬ ((xs.length : Int) ≤ t) by omega,zJ]
      repeat refine ⟨by omega, ?_⟩
      refine call_meetsO (hcp) (by simp only [aev,cv,cvc,yaf,zx,zA,zy,hg,htx] <;> rfl) (by simp only [aev,cv,cvc,yaC,zQ,zR,zg,Bool.true_or,zZ,true_or,hg,htx]) ?_; simp only [zE,zF,yac,zM,zu,zw,zz,isCallV,yad,yae,shV_own,shH_nil,shH_some,shB_row,zG,zL,zV,upd_n,zW,zH,pureOp,apureO,astepO,killT,aev,cv,cvc,zX,yal,storeA,cellsA,cellOk,setAll,condA_t,isD_c,isDL_nil,isDL_cons,zc,↓reduceIte,za,zb,zk,zd,ze,zf,zI,zj,zg,zo,zD,zp,zq,zl,zm,zh,zT,Value.oneCell',true_and,and_self,ne_eq,not_false_eq_true,reduceCtorEq,Nat.reduceEqDiff,zn,Nat.add_zero,Int.reduceToNat,zt,zK,Ty.td3,Ty.td22,Ty.td25,Ty.td29,List.getElem?_map,hg,Nat.mul_one,Nat.mod_one,Nat.div_one,htx]
      repeat refine ⟨by omega, ?_⟩
      refine call_meets (ho) (by simp only [aev,cv,cvc,elemsA,yan,yaf,toD_own,zx,zA,zy,↓reduceIte,za,zb,ze,zf,zp,zh,and_self,zt,zJ,List.length_set,htx] <;> rfl) ?_; simp only [zE,zF,yaz,zM,zu,zw,zz,isCallV,zG,zL,zV,upd_n,zW,zH,retA_is,pureOp,apureO,astepO,killT,killB,killH,aev,cv,cvc,zX,loadA_p,storeA,cellsA,cellOk,setAll,elemsA,dropL,flat_c,yaA,yaB,yar,yav,yao,ownsV_c,yaC,ownsV_own,zQ,zR,yan,toD_tup,toD_agg,yaf,zx,zA,zy,killV_c,yax,killV_sl,killV_own,killV_dptr,killV_ptr,killV_rp,killL_nil,killL_cons,notExit,yas,yat,yaw,oneA_2,zc,↓reduceIte,za,zb,zk,zd,ze,zf,zj,zg,zo,zD,zp,yap,zi,zl,zP,zm,zU,zh,yai,Value.oneCell',true_and,and_true,and_self,reduceCtorEq,Nat.reduceAdd,Nat.reduceLeDiff,Nat.reduceEqDiff,zn,yah,yaj,zY,or_false,yak,yab,zt,zr,Ty.td29,zJ,List.length_set,htx]
      try simp
    · have hi : insideE t (xs.length : Int) = false := by unfold insideE; simp; omega
      rw [hi] at hv ⊢
      have hv' : ys = xs := by simpa using hv
      rw [hv'] at ho ⊢
      clear hv hv' hyl
      refine meets_of (X := true) Ty.mixed Try.func42 (by kernel_rfl) rfl (by kernel_rfl) (by simp) ?_; rw [Try.ntmps42, Try.results42]
      simp only [yaq,zE,zF,yac,zM,zu,zw,yau,zz,isCallV,yad,yae,awpO_is,zG,zL,zV,zW,zH,pureOp,apureO,astepO,killT,aev,cv,cvc,binK,zX,elO_none,lenA,lenK,yal,yieldA,guardA_ff,yay,pickA_f,argT,zc,↓reduceIte,za,zb,zd,ze,zf,zj,zg,zB,zN,zq,zl,zO,zS,zm,zh,zT,Value.oneCell',true_and,and_self,ne_eq,not_false_eq_true,reduceCtorEq,Nat.reduceAdd,Nat.reduceEqDiff,zn,Int.reduceToNat,yag,decide_true,decide_false,zK,Ty.td3,Ty.td22,Ty.td25,Ty.td29,arrs,encA,h0,hx,show ((xs.length : Int) ≤ t) by omega,zJ]
      repeat refine ⟨by omega, ?_⟩
      refine call_meets (hcp) (by simp only [aev,cv,cvc,yaf,zx,zA,zy] <;> rfl) ?_; simp only [yaq,zE,zF,yac,zM,zu,zw,zz,isCallV,yad,yae,zG,zV,zW,zH,pureOp,apureO,killT,aev,cv,cvc,zX,yal,yay,yar,yaC,zQ,zR,zc,↓reduceIte,za,zb,ze,zf,zg,zq,zl,zm,Bool.or_true,yaa,true_and,ne_eq,not_false_eq_true,reduceCtorEq,Nat.reduceEqDiff,zZ,Int.reduceToNat,zK,Ty.td22,Ty.td25,Ty.td29]
      repeat refine ⟨by omega, ?_⟩
      refine call_meets (ho) (by simp only [aev,cv,cvc,yan,yaf,zx,zA,zy,ze,zf] <;> rfl) ?_; simp only [zE,zF,yaz,zM,zu,zw,zz,isCallV,zG,zL,zV,upd_n,zW,zH,retA_is,pureOp,apureO,astepO,killT,aev,cv,cvc,zX,loadA_p,storeA,cellsA,cellOk,setAll,flat_c,yaA,yaB,yar,yav,yao,ownsV_c,yaC,zQ,zR,yan,toD_tup,toD_agg,yaf,zx,zA,zy,notExit,yas,yat,yaw,oneA_2,zc,↓reduceIte,za,zb,zk,zd,ze,zf,zg,zo,zD,zp,zi,zl,zP,zm,zU,zh,Bool.or_true,Value.oneCell',true_and,and_true,and_self,Nat.reduceAdd,Nat.reduceLeDiff,Nat.reduceEqDiff,zn,zZ,zt,zr,Ty.td29]
      try simp
end Go.Proofs.Ytbmmemglkjeogaa.S35
