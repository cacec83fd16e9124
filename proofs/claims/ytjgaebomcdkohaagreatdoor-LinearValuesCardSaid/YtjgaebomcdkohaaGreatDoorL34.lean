/- The law on the algebra of linear expressions. -/
import Derived.Test.YtjgaebomcdkohaaGreatDoorL28
import Derived.Test.YtjgaebomcdkohaaGreatDoorL29
import Derived.Test.YtjgaebomcdkohaaGreatDoorLFit
namespace Go.Proofs.YtjgaebomcdkohaaGreatDoor.L34
open Go Go.Proofs.YtjgaebomcdkohaaGreatDoor.Eng Go.Proofs.YtjgaebomcdkohaaGreatDoor Go.RowKit Go.Proofs.YtjgaebomcdkohaaGreatDoor.L1 Go.Proofs.YtjgaebomcdkohaaGreatDoor.L2 Go.Proofs.YtjgaebomcdkohaaGreatDoor.L3 Go.Proofs.YtjgaebomcdkohaaGreatDoor.L6 Go.Proofs.YtjgaebomcdkohaaGreatDoor.L12 Go.Proofs.YtjgaebomcdkohaaGreatDoor.L15 Go.Proofs.YtjgaebomcdkohaaGreatDoor.L16 Go.Proofs.YtjgaebomcdkohaaGreatDoor.L17 Go.Proofs.YtjgaebomcdkohaaGreatDoor.L18 Go.Proofs.YtjgaebomcdkohaaGreatDoor.L19 Go.Proofs.YtjgaebomcdkohaaGreatDoor.L20 Go.Proofs.YtjgaebomcdkohaaGreatDoor.L22 Go.Proofs.YtjgaebomcdkohaaGreatDoor.L27 Go.Proofs.YtjgaebomcdkohaaGreatDoor.L28 Go.Proofs.YtjgaebomcdkohaaGreatDoor.L29
open _root_.List renaming getElem?_cons_zero → za, getElem?_cons_succ → zb, getElem?_toArray → zd, append_nil → zf, take_succ_cons → zh, length_cons → zj, length_nil → zl, isEmpty_nil → zo, map_cons → zu, map_nil → zw, drop_zero → zx, take_nil → zE, set_cons_zero → zH, set_cons_succ → zI, cons_append → zK, nil_append → zL, all_cons → zU, all_nil → yac
open _root_.Bool renaming false_eq_true → zg, true_and → zp, and_self → zD, or_true → zF, and_false → zT, and_true → yaa, not_true → yap, not_false → yaE
open _root_.Option renaming bind_some → zi, map_some → zr
open _root_.Go.Proofs.YtjgaebomcdkohaaGreatDoor.Eng renaming awpOps_one → zk, awpOp_is → zq, awpOps_nil → zz, putK_is → zA, slot_is → zB, awpOps_if → zJ, consO_some → zM, ownsL_cons → zN, put_s → zO, ownsL_nil → zP, seqQ_n → zQ, toDL_cons → zR, ownsV_agg → zS, callW_is → zV, callV_is → zW, toDL_nil → zX, awp_seq → zY, ownsV_sl → zZ, awp_reg → yab, toD_c → yad, guardA_ff → yae, loadA_p → yaf, toD_agg → yag, ownsV_c → yah, flat_c → yai, flatL_cons → yaj, toD_sl → yak, elO_s → yal, awpO_is → yam, flatL_nil → yan, upd_s → yao, flat_tup → yaq, flat_agg → yar, updK_is → yas, flat_sl → yat, pickA_f → yau, awp_cond → yav, resA_nil → yaw, resA_tmp → yax, upd_n → yay, awp_ret → yaz, retA_is → yaA, pickA_t → yaB, guardA_ft → yaC, oneA_1 → yaD, awp_skip → yaF, condA_f → yaG
open _root_.Nat renaming zero_add → zy, le_refl → zG
set_option linter.unusedSimpArgs false
set_option linter.unusedVariables false
set_option linter.unusedSectionVars false
set_option maxRecDepth 100000

theorem name_size {s : ByteArray} (h : nameE s = true) : s.size ≤ 30 := by
  rw [← bs_size]
  unfold nameE nameL at h
  split at h
  · simp only [Bool.and_eq_true,decide_eq_true_eq] at h
    omega
  · simp only [Bool.and_eq_true,decide_eq_true_eq] at h
    omega
theorem valid_mid {c : Int} {ts : List Tm} (h : validE c ts = true) : mid ts := by
  obtain ⟨_, l, _, n⟩ := valid_parts h
  exact ⟨by omega, fun t ht => by have := name_size (n t ht).2; omega⟩
theorem mid_nil : mid [] := ⟨by simp, by simp⟩
theorem lim_mid (l : Int × List Tm) : mid (limE l).1.2 := by
  unfold limE
  split
  · rename_i h; exact valid_mid h
  · exact mid_nil
theorem addR_mid (a b : Int × List Tm) (k : Int) : mid (addR a b k).1.2 := by
  unfold addR
  split
  · exact lim_mid _
  · exact mid_nil
theorem scaleR_mid (l : Int × List Tm) (k : Int) : mid (scaleR l k).1.2 := by
  unfold scaleR
  (repeat' split) <;> first | exact lim_mid _ | exact mid_nil
theorem addR_v {a b : Int × List Tm} {k : Int} (ha : validE a.1 a.2 = true) (hb : validE b.1 b.2 = true) : addR a b k = limE (timesE a b k) := if_pos ⟨ha, hb⟩
theorem lim_yes {l : Int × List Tm} (h : validE l.1 l.2 = true) : limE l = (l, 0) := if_pos h
theorem lim_no {l : Int × List Tm} (h : validE l.1 l.2 = false) : limE l = ((0, []), 3) := if_neg (by simp [h])
theorem lim_valid {l : Int × List Tm} (h : (limE l).2 = 0) : validE l.1 l.2 = true := by
  cases hv : validE l.1 l.2 with
  | true => rfl
  | false => rw [lim_no hv] at h; cases h
theorem scale_cases {a : Int × List Tm} {k : Int} (ha : validE a.1 a.2 = true) (h : (scaleR a k).2 = 0) : (fitsI k = true ∧ validE (timesE (0, []) a k).1 (timesE (0, []) a k).2 = true ∧ scaleR a k = (timesE (0, []) a k, 0)) ∨ (fitsI k = false ∧ a = (0, []) ∧ scaleR a k = ((0, []), 0)) := by
  unfold scaleR at h ⊢
  rw [if_pos ha] at h ⊢
  cases hf : fitsI k with
  | true =>
    rw [hf, if_pos rfl] at h
    have hv := lim_valid h
    exact Or.inl ⟨rfl, hv, by rw [if_pos rfl, lim_yes hv]⟩
  | false =>
    rw [hf, if_neg (by simp)] at h
    cases hz : zeroE a.1 a.2 with
    | true => exact Or.inr ⟨rfl, Prod.ext (zero_is hz).1 (zero_is hz).2, by simp⟩
    | false => rw [hz, if_neg (by simp)] at h; cases h
theorem dist {a b : Int × List Tm} {k : Int} (ha : validE a.1 a.2 = true) (hb : validE b.1 b.2 = true) (hab : validE (timesE a b 1).1 (timesE a b 1).2 = true) (h1 : (scaleR a k).2 = 0) (h2 : (scaleR b k).2 = 0) : addR (scaleR a k).1 (scaleR b k).1 1 = scaleR (timesE a b 1) k := by
  rcases scale_cases ha h1 with ⟨hf, va, ea⟩ | ⟨hf, rfl, ea⟩
  · rcases scale_cases hb h2 with ⟨_, vb, eb⟩ | ⟨hf', _, _⟩
    · rw [ea, eb]
      simp only
      rw [addR_v va vb, ← alg_dist hf (good ha) (good hb) (good hab) (good va) (good vb)]
      unfold scaleR
      rw [if_pos hab, if_pos hf]
    · rw [hf] at hf'; cases hf'
  · rcases scale_cases hb h2 with ⟨hf', _, _⟩ | ⟨_, rfl, eb⟩
    · rw [hf] at hf'; cases hf'
    · rw [times_zero, ea]
      simp only
      rw [addR_v rfl rfl, times_zero]
      exact lim_zero
theorem addM (c1 : Int) (t1 : List Tm) (c2 : Int) (t2 : List Tm) (h1 : mid t1) (h2 : mid t2) : Meets Tryz.prog 12 [ln c1 t1, ln c2 t2] (linR (addR (c1, t1) (c2, t2) 1)) := by
  have := addP ksP c1 t1 c2 t2 h1 h2
  rwa [show addE (c1, t1) (c2, t2) = addR (c1, t1) (c2, t2) 1 from addR_is _ _ _] at this
theorem subM (c1 : Int) (t1 : List Tm) (c2 : Int) (t2 : List Tm) (h1 : mid t1) (h2 : mid t2) : Meets Tryz.prog 14 [ln c1 t1, ln c2 t2] (linR (addR (c1, t1) (c2, t2) (-1))) := by
  have := subP ksP c1 t1 c2 t2 h1 h2
  rwa [show subE (c1, t1) (c2, t2) = addR (c1, t1) (c2, t2) (-1) from addR_is _ _ _] at this
theorem scaleM (c : Int) (ts : List Tm) (k : Int) (h : mid ts) : Meets Tryz.prog 16 [ln c ts, I k] (linR (scaleR (c, ts) k)) := by
  have := scaleP ksP c ts k h
  rwa [scaleR_is] at this
theorem addP' (a b : Int × List Tm) (h1 : mid a.2) (h2 : mid b.2) : Meets Tryz.prog 12 [ln a.1 a.2, ln b.1 b.2] (linR (addR a b 1)) := addM a.1 a.2 b.1 b.2 h1 h2
theorem subP' (a b : Int × List Tm) (h1 : mid a.2) (h2 : mid b.2) : Meets Tryz.prog 14 [ln a.1 a.2, ln b.1 b.2] (linR (addR a b (-1))) := subM a.1 a.2 b.1 b.2 h1 h2
theorem scaleP' (a : Int × List Tm) (k : Int) (h1 : mid a.2) : Meets Tryz.prog 16 [ln a.1 a.2, I k] (linR (scaleR a k)) := scaleM a.1 a.2 k h1
theorem small14 {ts : List Tm} (h : fewE ts = true) : small ts := (few_mid h).s

set_option maxHeartbeats 2000000 in
theorem law (c1 : Int) (t1 : List Tm) (h1 : t1.length ≤ maxLen) (c2 : Int) (t2 : List Tm) (h2 : t2.length ≤ maxLen) (c3 : Int) (t3 : List Tm) (h3 : t3.length ≤ maxLen) (k : Int) : Meets Tryz.prog 6 [.agg [I c1, tms t1, I c2, tms t2, I c3, tms t3], I k] (B true) := by
  unfold maxLen at h1 h2 h3
  refine meets_of (X := true) Ty.mixed Tryz.func6 (by kernel_rfl) rfl (by kernel_rfl) (by simp) ?_; rw [Tryz.ntmps6, Tryz.results6]
  simp only [yab,zY,zQ,zz,zk,zq,isCallV,zV,zW,zA,yas,zO,yao,zB,pureOp,apureO,astepO,killT,aev,cv,cvc,cellsA,cellOk,argT,isC,bsD,zg,↓reduceIte,zl,zw,zL,zf,zp,true_and,zy]
  refine call_meets (awake) (by simp only [aev,cv,cvc,zX,isC,bsD] <;> rfl) ?_; simp only [awp_regX,yaF,zY,yav,zQ,zz,zk,zq,zA,zO,yao,zB,pureOp,apureO,killT,aev,cv,cvc,yaG,yai,zP,isC,bsD,↓reduceIte,zF,yap,zo]
  refine drawS_wild ?_; simp (config := {maxSteps := 2000000}) only [yab,zY,zQ,zk,zq,isCallV,zV,zW,zA,zO,zB,pureOp,apureO,astepO,killT,killB,aev,cv,cvc,yal,yaf,storeA,cellsA,cellOk,setAll,killV_c,killV_nils,killV_sl,killL_nil,killL_cons,isC,bsD,zg,↓reduceIte,za,zb,zj,zl,zu,zw,zK,zL,zf,zH,zI,zh,List.take_zero,List.drop_succ_cons,zx,zU,yac,zp,zD,zF,Bool.true_or,Bool.false_or,Bool.or_false,Value.oneCell',true_and,and_self,reduceCtorEq,Nat.reduceAdd,Nat.reduceMul,Nat.reduceLT,Nat.reduceLeDiff,Nat.reduceEqDiff,zy,List.mem_cons,List.not_mem_nil,or_false,false_or,Int.reduceToNat,List.range_succ,List.range_zero,decide_true,List.zipIdx_cons,List.zipIdx_nil,zG,List.drop_nil,zE,Int.le_refl,List.any_cons,List.any_nil,true_or,awpW_nil,awpW_one,wRun_is,wOp_is,keepK_is,stepK_is,contW_is,nextW_n,nextW_s,confs_nil,confs_cons,conf_is,meet_nil,meet_cons,opV_alloc,opV_load,opV_store,opV_indexAddr,tch_alloc,tch_load,tch_indexAddr,tch_store,rd_alloc,rd_load,rd_indexAddr,rd_store,namesV_c,namesV_nils,namesV_junk,namesV_sl,namesV_ptr,namesV_agg,namesL_nil,namesL_cons,namesH_nil,namesH_cons,namesB_var,namesB_none,killO_s,allLt_is,maskH_is,mergeH_is,setH_is,newL_is,refsT,refsH,refsV,refsL,Bool.or_self,true_or,Nat.reduceBEq,Ty.td24,Ty.td50]
  refine ⟨by omega, by omega, by kernel_rfl, ?_⟩
  refine call_meets (few_ c1 t1 c2 t2 (by omega) (by omega)) (by simp only [aev,cv,cvc,yad,yag,yak,zM,zX,zR,isC,bsD,zr] <;> rfl) ?_; simp only [zk,zJ,zq,zA,zO,yao,zB,pureOp,apureO,killT,aev,cv,cvc,yieldA,yai,yah,zS,zZ,zP,zN,isC,bsD,↓reduceIte,za,zb,zf,zd,zi,zF,zo]
  cases hf : fewE t1 && fewE t2 with
  | false => simp only [yab,zY,yav,yaz,zQ,seqQ_r,zz,zk,zJ,zq,zA,zO,zB,yaA,pureOp,apureO,aev,cv,cvc,yieldA,yaC,condA_t,yaB,yad,notExit,yaw,yax,yaD,isC,bsD,↓reduceIte,za,zb,zd,zi,zD,yaE,and_self,Nat.reduceEqDiff,hf]
  | true =>
  simp only [zJ,zq,isCallV,zV,zW,yam,zA,zO,zB,pureOp,apureO,aev,cv,cvc,yal,yaf,yieldA,yae,isC,bsD,zg,↓reduceIte,za,zb,zj,zl,zu,zw,zf,zd,zi,zh,zx,zp,yap,true_and,Nat.reduceAdd,Nat.reduceEqDiff,zy,zG,zE,Ty.td24,hf]
  rw [Bool.and_eq_true] at hf
  refine call_meets (few14 c3 t3 14 (by omega) (by omega)) (by simp only [aev,cv,cvc,yad,yag,yak,zM,zX,zR,isC,bsD,zr] <;> rfl) ?_; simp only [zk,zJ,zq,yam,zA,zO,yao,zB,pureOp,apureO,killT,aev,cv,cvc,yieldA,yae,yau,yai,yah,zS,zZ,zP,zN,isC,bsD,↓reduceIte,za,zb,zf,zd,zi,zF,Nat.reduceEqDiff,zo]
  cases hg : fewE t3 with
  | false => simp only [yab,zY,yav,yaz,zQ,seqQ_r,zz,zk,zJ,zq,zA,zO,zB,yaA,pureOp,apureO,aev,cv,cvc,yieldA,yaC,condA_t,yaB,yad,notExit,yaw,yax,yaD,isC,bsD,↓reduceIte,za,zb,zd,zi,zD,yaE,and_self,Nat.reduceEqDiff,hg]
  | true =>
  simp only [zJ,zq,isCallV,zV,zW,yam,zA,zO,zB,pureOp,apureO,aev,cv,cvc,yal,yaf,yieldA,yae,isC,bsD,zg,↓reduceIte,za,zb,zj,zl,zu,zw,zf,zd,zi,zh,zx,zp,yap,true_and,Nat.reduceAdd,Nat.reduceEqDiff,zy,zG,zE,Ty.td24,hg]
  refine call_meets (rvalid c1 t1 (small14 hf.1)) (by simp only [aev,cv,cvc,yad,yag,yak,zM,zX,zR,isC,bsD,zr] <;> rfl) ?_; simp only [zk,zJ,zq,yam,zA,zO,yao,zB,pureOp,apureO,killT,aev,cv,cvc,yieldA,yae,yau,yai,yah,zS,zZ,zP,zN,isC,bsD,↓reduceIte,za,zb,zf,zd,zi,zF,Nat.reduceEqDiff,zo]
  cases va : validE c1 t1 with
  | false => simp only [yab,zY,yav,yaz,zQ,seqQ_r,zz,zk,zJ,zq,zA,zO,zB,yaA,pureOp,apureO,aev,cv,cvc,yieldA,yaC,condA_t,yaB,yad,notExit,yaw,yax,yaD,isC,bsD,↓reduceIte,za,zb,zd,zi,zD,yaE,and_self,Nat.reduceEqDiff,va]
  | true =>
  simp only [zJ,zq,isCallV,zV,zW,yam,zA,zO,zB,pureOp,apureO,aev,cv,cvc,yal,yaf,yieldA,yae,isC,bsD,zg,↓reduceIte,za,zb,zj,zl,zu,zw,zf,zd,zi,zh,zx,zp,yap,true_and,Nat.reduceAdd,Nat.reduceEqDiff,zy,zG,zE,Ty.td24,va]
  refine call_meets (rvalid c2 t2 (small14 hf.2)) (by simp only [aev,cv,cvc,yad,yag,yak,zM,zX,zR,isC,bsD,zr] <;> rfl) ?_; simp only [zk,zJ,zq,yam,zA,zO,yao,zB,pureOp,apureO,killT,aev,cv,cvc,yieldA,yae,yau,yai,yah,zS,zZ,zP,zN,isC,bsD,↓reduceIte,za,zb,zf,zd,zi,zF,Nat.reduceEqDiff,zo]
  cases vb : validE c2 t2 with
  | false => simp only [yab,zY,yav,yaz,zQ,seqQ_r,zz,zk,zJ,zq,zA,zO,zB,yaA,pureOp,apureO,aev,cv,cvc,yieldA,yaC,condA_t,yaB,yad,notExit,yaw,yax,yaD,isC,bsD,↓reduceIte,za,zb,zd,zi,zD,yaE,and_self,Nat.reduceEqDiff,vb]
  | true =>
  simp only [zJ,zq,isCallV,zV,zW,yam,zA,zO,zB,pureOp,apureO,aev,cv,cvc,yal,yaf,yieldA,yae,isC,bsD,zg,↓reduceIte,za,zb,zj,zl,zu,zw,zf,zd,zi,zh,zx,zp,yap,true_and,Nat.reduceAdd,Nat.reduceEqDiff,zy,zG,zE,Ty.td24,vb]
  refine call_meets (rvalid c3 t3 (small14 hg)) (by simp only [aev,cv,cvc,yad,yag,yak,zM,zX,zR,isC,bsD,zr] <;> rfl) ?_; simp only [yav,zQ,zz,zk,zJ,zq,yam,zA,zO,yao,zB,pureOp,apureO,killT,aev,cv,cvc,yieldA,yae,yau,yai,yah,zS,zZ,zP,zN,isC,bsD,↓reduceIte,za,zb,zf,zd,zi,zF,Nat.reduceEqDiff,zo]
  cases vc : validE c3 t3 with
  | false => simp only [yab,zY,yaz,zQ,seqQ_r,zz,zk,zq,zA,zO,zB,yaA,pureOp,apureO,aev,cv,cvc,condA_t,yad,notExit,yaw,yax,yaD,isC,bsD,↓reduceIte,zD,yaE,and_self,vc]
  | true =>
  have m1 := valid_mid va
  have m2 := valid_mid vb
  have m3 := valid_mid vc
  have ga := good (l := (c1, t1)) va
  have gb := good (l := (c2, t2)) vb
  have gc := good (l := (c3, t3)) vc
  have q1 := addM c1 t1 c2 t2 m1 m2
  have q2 := addM c2 t2 c1 t1 m2 m1
  have q3 := addM c2 t2 c3 t3 m2 m3
  rw [addR_v va vb] at q1
  rw [addR_v vb va, ← alg_comm ga gb] at q2
  cases hab : validE (timesE (c1, t1) (c2, t2) 1).1 (timesE (c1, t1) (c2, t2) 1).2 with
  | false =>
    rw [lim_no hab] at q1 q2
    have l3 := addR_len (c2, t2) (c3, t3) 1
    generalize addR (c2, t2) (c3, t3) 1 = z at *
    obtain ⟨⟨zc, zt⟩, ze⟩ := z
    simp only [yaF,yab,zY,zQ,zk,zq,isCallV,zV,zW,zA,zO,zB,pureOp,apureO,aev,cv,cvc,yal,yaf,yaG,isC,bsD,zg,↓reduceIte,za,zb,zj,zl,zu,zw,zf,zh,zx,zp,yap,true_and,Nat.reduceAdd,Nat.reduceEqDiff,zy,zG,zE,Ty.td24,vc]
    refine call_meets (q1) (by simp only [aev,cv,cvc,yad,yag,yak,zM,zX,zR,isC,bsD,zr] <;> rfl) ?_; simp only [yab,zY,zQ,zz,zk,zq,isCallV,zV,zW,zA,yas,zO,yay,yao,zB,pureOp,apureO,astepO,killT,aev,cv,cvc,yal,yaf,storeA,cellsA,cellOk,setAll,yai,yaq,yar,yat,yan,yaj,yah,zS,zZ,zP,zN,isC,bsD,zg,↓reduceIte,za,zb,zj,zl,zu,zw,zK,zL,zf,zH,zI,zh,zx,zU,yac,yaa,zp,zT,zD,zF,Value.oneCell',true_and,and_true,and_self,Nat.reduceAdd,Nat.reduceEqDiff,zy,zo,zG,zE,Ty.td24]
    refine call_meets (q2) (by simp only [aev,cv,cvc,yad,yag,yak,zM,zX,zR,isC,bsD,zr] <;> rfl) ?_; simp only [yab,zY,zQ,zz,zk,zq,isCallV,zV,zW,zA,yas,zO,yay,yao,zB,pureOp,apureO,astepO,killT,aev,cv,cvc,yal,yaf,storeA,cellsA,cellOk,setAll,yai,yaq,yar,yat,yan,yaj,yah,zS,zZ,zP,zN,isC,bsD,zg,↓reduceIte,za,zb,zj,zl,zu,zw,zK,zL,zf,zH,zI,zh,zx,zU,yac,yaa,zp,zT,zD,zF,Value.oneCell',true_and,and_true,and_self,Nat.reduceAdd,Nat.reduceEqDiff,zy,zo,zG,zE,Ty.td24]
    refine call_meets (q3) (by simp only [aev,cv,cvc,yad,yag,yak,zM,zX,zR,isC,bsD,zr] <;> rfl) ?_; simp only [yab,zY,zQ,zz,zk,zJ,zq,isCallV,zV,zW,yam,zA,yas,zO,yay,yao,zB,pureOp,apureO,astepO,killT,aev,cv,cvc,binK,yal,yaf,storeA,cellsA,cellOk,setAll,yieldA,yae,yai,yaq,yar,yat,yan,yaj,yah,zS,zZ,zP,zN,isC,bsD,zg,↓reduceIte,za,zb,zj,zl,zu,zw,zK,zL,zf,zH,zI,zd,zi,zh,zx,zU,yac,yaa,zp,zT,zD,zF,Value.oneCell',true_and,and_true,and_self,Nat.reduceAdd,Nat.reduceEqDiff,zy,zo,zG,zE,Ty.td24,bne_self_eq_false]
    refine call_meets (refEqual 0 [] 0 [] (by simp) (by simp)) (by simp only [aev,cv,cvc,yad,yag,yak,zM,zX,zR,isC,bsD,zw,zr] <;> rfl) ?_; simp only [yav,zQ,zz,zk,zJ,zq,yam,zA,zO,yao,zB,pureOp,apureO,killT,aev,cv,cvc,yieldA,yae,yau,yai,yah,zS,zZ,zP,zN,isC,bsD,↓reduceIte,za,zb,zf,zd,zi,zF,Nat.reduceEqDiff,zo]
    simp only [yaF,yab,zY,yav,yaz,zQ,seqQ_r,zz,zk,zq,zA,zO,zB,yaA,pureOp,apureO,aev,cv,cvc,binK,condA_t,yaG,yad,notExit,yaw,yax,yaD,isC,bsD,↓reduceIte,zD,yap,and_self,Nat.reduceEqDiff,eqE_refl,show ((3 : Int) != 0) = true from rfl]
  | true =>
    have gab := good hab
    rw [lim_yes hab] at q1 q2
    have mab := valid_mid hab
    have lab := (valid_parts hab).2.1
    have q4 := subP' (timesE (c1, t1) (c2, t2) 1) (c2, t2) mab m2
    rw [addR_v hab vb, alg_back ga gb gab, lim_yes (l := (c1, t1)) va] at q4
    have q5 := addP' (timesE (c1, t1) (c2, t2) 1) (c3, t3) mab m3
    have q6 : ∃ yc yt g Y, mid yt ∧ addR (c2, t2) (c3, t3) 1 = ((yc, yt), g) ∧ addR (c1, t1) (yc, yt) 1 = Y ∧ (g = 0 → Y = addR (timesE (c1, t1) (c2, t2) 1) (c3, t3) 1) := by
      refine ⟨(addR (c2, t2) (c3, t3) 1).1.1, (addR (c2, t2) (c3, t3) 1).1.2, (addR (c2, t2) (c3, t3) 1).2, _, addR_mid (c2, t2) (c3, t3) 1, rfl, rfl, fun hg0 => ?_⟩
      have e := addR_v (a := (c2, t2)) (b := (c3, t3)) (k := 1) vb vc
      rw [e] at hg0 ⊢
      have hbc := lim_valid hg0
      rw [lim_yes hbc]
      simp only
      rw [addR_v va hbc, addR_v hab vc, alg_assoc ga gb gc gab (good hbc)]
    obtain ⟨yc, yt, g, ⟨⟨Yc, Yt⟩, ye⟩, my, e6, e7, hY⟩ := q6
    rw [e6] at q3
    have q7 := addM c1 t1 yc yt m1 my
    have lY := addR_len (c1, t1) (yc, yt) 1
    rw [e7] at q7 lY
    have lX := addR_len (timesE (c1, t1) (c2, t2) 1) (c3, t3) 1
    have s1 := scaleM c1 t1 k m1
    have s2 := scaleM c2 t2 k m2
    have s3 := scaleP' (timesE (c1, t1) (c2, t2) 1) k mab
    have n1 := scaleR_mid (c1, t1) k
    have n2 := scaleR_mid (c2, t2) k
    have n3 := scaleR_len (timesE (c1, t1) (c2, t2) 1) k
    have s4 := addP' (scaleR (c1, t1) k).1 (scaleR (c2, t2) k).1 n1 n2
    have n4 := addR_len (scaleR (c1, t1) k).1 (scaleR (c2, t2) k).1 1
    have hd := dist (k := k) va vb hab
    generalize timesE (c1, t1) (c2, t2) 1 = x at *
    generalize scaleR x k = w3 at *
    generalize scaleR (c1, t1) k = w1 at *
    generalize scaleR (c2, t2) k = w2 at *
    obtain ⟨xc, xt⟩ := x
    obtain ⟨⟨w1c, w1t⟩, w1e⟩ := w1
    obtain ⟨⟨w2c, w2t⟩, w2e⟩ := w2
    obtain ⟨⟨w3c, w3t⟩, w3e⟩ := w3
    simp only at *
    generalize addR (xc, xt) (c3, t3) 1 = X at *
    generalize addR (w1c, w1t) (w2c, w2t) 1 = Z at *
    obtain ⟨⟨Xc, Xt⟩, xe⟩ := X
    obtain ⟨⟨Zc, Zt⟩, ze⟩ := Z
    simp only at *
    have l14 := few_len hf.1
    simp only [yaF,yab,zY,zQ,zk,zq,isCallV,zV,zW,zA,zO,zB,pureOp,apureO,aev,cv,cvc,yal,yaf,yaG,isC,bsD,zg,↓reduceIte,za,zb,zj,zl,zu,zw,zf,zh,zx,zp,yap,true_and,Nat.reduceAdd,Nat.reduceEqDiff,zy,zG,zE,Ty.td24,vc]
    refine call_meets (q1) (by simp only [aev,cv,cvc,yad,yag,yak,zM,zX,zR,isC,bsD,zr] <;> rfl) ?_; simp only [yab,zY,zQ,zz,zk,zq,isCallV,zV,zW,zA,yas,zO,yay,yao,zB,pureOp,apureO,astepO,killT,aev,cv,cvc,yal,yaf,storeA,cellsA,cellOk,setAll,yai,yaq,yar,yat,yan,yaj,yah,zS,zZ,zP,zN,isC,bsD,zg,↓reduceIte,za,zb,zj,zl,zu,zw,zK,zL,zf,zH,zI,zh,zx,zU,yac,yaa,zp,zT,zD,zF,Value.oneCell',true_and,and_true,and_self,Nat.reduceAdd,Nat.reduceEqDiff,zy,zo,zG,zE,Ty.td24]
    refine call_meets (q2) (by simp only [aev,cv,cvc,yad,yag,yak,zM,zX,zR,isC,bsD,zr] <;> rfl) ?_; simp only [yab,zY,zQ,zz,zk,zq,isCallV,zV,zW,zA,yas,zO,yay,yao,zB,pureOp,apureO,astepO,killT,aev,cv,cvc,yal,yaf,storeA,cellsA,cellOk,setAll,yai,yaq,yar,yat,yan,yaj,yah,zS,zZ,zP,zN,isC,bsD,zg,↓reduceIte,za,zb,zj,zl,zu,zw,zK,zL,zf,zH,zI,zh,zx,zU,yac,yaa,zp,zT,zD,zF,Value.oneCell',true_and,and_true,and_self,Nat.reduceAdd,Nat.reduceEqDiff,zy,zo,zG,zE,Ty.td24]
    refine call_meets (q3) (by simp only [aev,cv,cvc,yad,yag,yak,zM,zX,zR,isC,bsD,zr] <;> rfl) ?_; simp only [yab,zY,zQ,zz,zk,zJ,zq,isCallV,zV,zW,yam,zA,yas,zO,yay,yao,zB,pureOp,apureO,astepO,killT,aev,cv,cvc,binK,yal,yaf,storeA,cellsA,cellOk,setAll,yieldA,yae,yai,yaq,yar,yat,yan,yaj,yah,zS,zZ,zP,zN,isC,bsD,zg,↓reduceIte,za,zb,zj,zl,zu,zw,zK,zL,zf,zH,zI,zd,zi,zh,zx,zU,yac,yaa,zp,zT,zD,zF,Value.oneCell',true_and,and_true,and_self,Nat.reduceAdd,Nat.reduceEqDiff,zy,zo,zG,zE,Ty.td24,bne_self_eq_false]
    refine call_meets (refEqual xc xt xc xt (by omega) (by omega)) (by simp only [aev,cv,cvc,yad,yag,yak,zM,zX,zR,isC,bsD,zr] <;> rfl) ?_; simp only [yav,zQ,zz,zk,zJ,zq,yam,zA,zO,yao,zB,pureOp,apureO,killT,aev,cv,cvc,yieldA,yae,yau,yai,yah,zS,zZ,zP,zN,isC,bsD,↓reduceIte,za,zb,zf,zd,zi,zF,Nat.reduceEqDiff,zo]
    simp only [yaF,yab,zY,yav,zQ,zz,zk,zq,isCallV,zV,zW,zA,zO,zB,pureOp,apureO,aev,cv,cvc,binK,yal,yaf,yaG,isC,bsD,zg,↓reduceIte,za,zb,zj,zl,zu,zw,zf,zh,zx,zp,yap,true_and,Nat.reduceAdd,Nat.reduceEqDiff,zy,zG,zE,Ty.td24,eqE_refl,bne_self_eq_false]
    refine call_meets (q4) (by simp only [aev,cv,cvc,yad,yag,yak,zM,zX,zR,isC,bsD,zr] <;> rfl) ?_; simp only [yab,zY,zQ,zz,zk,zJ,zq,isCallV,zV,zW,yam,zA,yas,zO,yay,yao,zB,pureOp,apureO,astepO,killT,aev,cv,cvc,binK,yal,yaf,storeA,cellsA,cellOk,setAll,yieldA,yae,yai,yaq,yar,yat,yan,yaj,yah,zS,zZ,zP,zN,isC,bsD,zg,↓reduceIte,za,zb,zj,zl,zu,zw,zK,zL,zf,zH,zI,zd,zi,zh,zx,zU,yac,yaa,zp,zT,zD,zF,Value.oneCell',true_and,and_true,and_self,Nat.reduceAdd,Nat.reduceEqDiff,zy,zo,zG,zE,Ty.td24,bne_self_eq_false]
    refine call_meets (refEqual c1 t1 c1 t1 (by omega) (by omega)) (by simp only [aev,cv,cvc,yad,yag,yak,zM,zX,zR,isC,bsD,zr] <;> rfl) ?_; simp only [yav,zQ,zz,zk,zJ,zq,yam,zA,zO,yao,zB,pureOp,apureO,killT,aev,cv,cvc,yieldA,yae,yau,yai,yah,zS,zZ,zP,zN,isC,bsD,↓reduceIte,za,zb,zf,zd,zi,zF,Nat.reduceEqDiff,zo]
    simp only [yaF,yab,zY,zQ,zk,zq,isCallV,zV,zW,zA,zO,zB,pureOp,apureO,aev,cv,cvc,yal,yaf,yaG,isC,bsD,zg,↓reduceIte,za,zb,zj,zl,zu,zw,zf,zh,zx,zp,yap,true_and,Nat.reduceAdd,Nat.reduceEqDiff,zy,zG,zE,Ty.td24,eqE_refl]
    refine call_meets (q5) (by simp only [aev,cv,cvc,yad,yag,yak,zM,zX,zR,isC,bsD,zr] <;> rfl) ?_; simp only [yab,zY,zQ,zz,zk,zq,isCallV,zV,zW,zA,yas,zO,yay,yao,zB,pureOp,apureO,astepO,killT,aev,cv,cvc,yal,yaf,storeA,cellsA,cellOk,setAll,yai,yaq,yar,yat,yan,yaj,yah,zS,zZ,zP,zN,isC,bsD,zg,↓reduceIte,za,zb,zj,zl,zu,zw,zK,zL,zf,zH,zI,zh,zx,zU,yac,yaa,zp,zT,zD,zF,Value.oneCell',true_and,and_true,and_self,Nat.reduceAdd,Nat.reduceEqDiff,zy,zo,zG,zE,Ty.td24]
    refine call_meets (q7) (by simp only [aev,cv,cvc,yad,yag,yak,zM,zX,zR,isC,bsD,zr] <;> rfl) ?_; simp only [yab,zY,zQ,zz,zk,zJ,zq,isCallV,zA,yas,zO,yay,yao,zB,pureOp,apureO,astepO,killT,aev,cv,cvc,binK,yal,storeA,cellsA,cellOk,setAll,yieldA,yai,yaq,yar,yat,yan,yaj,yah,zS,zZ,zP,zN,isC,bsD,zg,↓reduceIte,za,zb,zj,zl,zu,zw,zK,zL,zf,zH,zI,zd,zi,zU,yac,yaa,zp,zT,zD,zF,Value.oneCell',true_and,and_true,and_self,Nat.reduceAdd,Nat.reduceEqDiff,zy,zo,zG,Ty.td24]
    by_cases hg0 : g = 0
    · have := hY hg0
      cases this
      simp only [zJ,zq,isCallV,zV,zW,yam,zA,zO,zB,pureOp,apureO,aev,cv,cvc,binK,yal,yaf,yieldA,guardA_tt,yae,isC,bsD,zg,↓reduceIte,za,zb,zj,zl,zu,zw,zf,zd,zi,zh,zx,zp,true_and,Nat.reduceAdd,Nat.reduceEqDiff,zy,zG,zE,Ty.td24,show (g == 0) = true by simpa using hg0,bne_self_eq_false]
      refine call_meets (refEqual Yc Yt Yc Yt (by omega) (by omega)) (by simp only [aev,cv,cvc,yad,yag,yak,zM,zX,zR,isC,bsD,zr] <;> rfl) ?_; simp only [yav,zQ,zz,zk,zJ,zq,yam,zA,zO,yao,zB,pureOp,apureO,killT,aev,cv,cvc,yieldA,guardA_tt,yae,yaB,yau,yai,yah,zS,zZ,zP,zN,isC,bsD,↓reduceIte,za,zb,zf,zd,zi,zF,Nat.reduceEqDiff,zo]
      simp only [yaF,yab,zY,zQ,zk,zq,isCallV,zV,zW,zA,zO,zB,pureOp,apureO,aev,cv,cvc,yal,yaf,yaG,isC,bsD,zg,↓reduceIte,za,zb,zj,zl,zu,zw,zf,zh,zx,zp,yap,true_and,reduceCtorEq,Nat.reduceAdd,Nat.reduceEqDiff,zy,zG,zE,Ty.td24,eqE_refl]
      refine call_meets (s1) (by simp only [aev,cv,cvc,yad,yag,yak,zM,zX,zR,isC,bsD,zr] <;> rfl) ?_; simp only [yab,zY,zQ,zz,zk,zq,isCallV,zV,zW,zA,yas,zO,yay,yao,zB,pureOp,apureO,astepO,killT,aev,cv,cvc,yal,yaf,storeA,cellsA,cellOk,setAll,yai,yaq,yar,yat,yan,yaj,yah,zS,zZ,zP,zN,isC,bsD,zg,↓reduceIte,za,zb,zj,zl,zu,zw,zK,zL,zf,zH,zI,zh,zx,zU,yac,yaa,zp,zT,zD,zF,Value.oneCell',true_and,and_true,and_self,reduceCtorEq,Nat.reduceAdd,Nat.reduceEqDiff,zy,zo,zG,zE,Ty.td24]
      refine call_meets (s2) (by simp only [aev,cv,cvc,yad,yag,yak,zM,zX,zR,isC,bsD,zr] <;> rfl) ?_; simp only [yab,zY,zQ,zz,zk,zq,isCallV,zV,zW,zA,yas,zO,yay,yao,zB,pureOp,apureO,astepO,killT,aev,cv,cvc,yal,yaf,storeA,cellsA,cellOk,setAll,yai,yaq,yar,yat,yan,yaj,yah,zS,zZ,zP,zN,isC,bsD,zg,↓reduceIte,za,zb,zj,zl,zu,zw,zK,zL,zf,zH,zI,zh,zx,zU,yac,yaa,zp,zT,zD,zF,Value.oneCell',true_and,and_true,and_self,reduceCtorEq,Nat.reduceAdd,Nat.reduceEqDiff,zy,zo,zG,zE,Ty.td24]
      refine call_meets (s3) (by simp only [aev,cv,cvc,yad,yag,yak,zM,zX,zR,isC,bsD,zr] <;> rfl) ?_; simp only [yab,zY,zQ,zz,zk,zq,isCallV,zV,zW,zA,yas,zO,yay,yao,zB,pureOp,apureO,astepO,killT,aev,cv,cvc,yal,yaf,storeA,cellsA,cellOk,setAll,yai,yaq,yar,yat,yan,yaj,yah,zS,zZ,zP,zN,isC,bsD,zg,↓reduceIte,za,zb,zj,zl,zu,zw,zK,zL,zf,zH,zI,zh,zx,zU,yac,yaa,zp,zT,zD,zF,Value.oneCell',true_and,and_true,and_self,Nat.reduceAdd,Nat.reduceEqDiff,zy,zo,zG,zE,Ty.td24]
      refine call_meets (s4) (by simp only [aev,cv,cvc,yad,yag,yak,zM,zX,zR,isC,bsD,zr] <;> rfl) ?_; simp only [yab,zY,zQ,zz,zk,zJ,zq,isCallV,zA,yas,zO,yay,yao,zB,pureOp,apureO,astepO,killT,aev,cv,cvc,binK,yal,storeA,cellsA,cellOk,setAll,yieldA,yai,yaq,yar,yat,yan,yaj,yah,zS,zZ,zP,zN,isC,bsD,zg,↓reduceIte,za,zb,zj,zl,zu,zw,zK,zL,zf,zH,zI,zd,zi,zU,yac,yaa,zp,zT,zD,zF,Value.oneCell',true_and,and_true,and_self,Nat.reduceAdd,Nat.reduceEqDiff,zy,zo,zG,Ty.td24]
      by_cases j1 : w1e = 0
      · by_cases j2 : w2e = 0
        · have e := hd j1 j2
          cases e
          simp only [zk,zJ,zq,isCallV,zV,zW,yam,zA,zO,zB,pureOp,apureO,aev,cv,cvc,binK,yal,yaf,yieldA,guardA_tt,yae,yau,isC,bsD,zg,↓reduceIte,za,zb,zj,zl,zu,zw,zf,zd,zi,zh,zx,zp,true_and,Nat.reduceAdd,Nat.reduceEqDiff,zy,zG,zE,Ty.td24,show (w1e != 0) = false by simpa using j1,show (w2e != 0) = false by simpa using j2,beq_self_eq_true]
          refine call_meets (refEqual w3c w3t w3c w3t (by omega) (by omega)) (by simp only [aev,cv,cvc,yad,yag,yak,zM,zX,zR,isC,bsD,zr] <;> rfl) ?_; simp only [yaz,zQ,zz,zk,zJ,zq,yam,zA,zO,yao,zB,yaA,pureOp,apureO,killT,aev,cv,cvc,yieldA,yae,yaB,yau,yai,yah,zS,zZ,zP,zN,yad,notExit,yaw,yax,yaD,isC,bsD,↓reduceIte,za,zb,zf,zd,zi,zp,zF,true_and,Nat.reduceEqDiff,zo]
          simp only [aev,cv,cvc,isC,bsD,eqE_refl]
        · simp only [yaz,zQ,zz,zk,zJ,zq,yam,zA,zO,zB,yaA,pureOp,apureO,aev,cv,cvc,binK,yieldA,guardA_no,yaC,yae,yaB,yau,yad,notExit,yaw,yax,yaD,isC,bsD,↓reduceIte,za,zb,zd,zi,zD,and_self,Nat.reduceEqDiff,show (w1e != 0) = false by simpa using j1,show (w2e != 0) = true by simpa using j2]
      · simp only [yaz,zQ,zz,zk,zJ,zq,zA,zO,zB,yaA,pureOp,apureO,aev,cv,cvc,yieldA,guardA_no,yaC,yaB,yad,notExit,yaw,yax,yaD,isC,bsD,↓reduceIte,za,zb,zd,zi,zD,and_self,Nat.reduceEqDiff,show (w1e != 0) = true by simpa using j1]
    · simp only [yaF,yab,zY,yav,zQ,zz,zk,zJ,zq,isCallV,zV,zW,zA,zO,zB,pureOp,apureO,aev,cv,cvc,yal,yaf,yieldA,guardA_no,guardA_tf,yaG,yau,isC,bsD,zg,↓reduceIte,za,zb,zj,zl,zu,zw,zf,zd,zi,zh,zx,zp,true_and,reduceCtorEq,Nat.reduceAdd,Nat.reduceEqDiff,zy,zG,zE,Ty.td24,show (g == 0) = false by simpa using hg0]
      refine call_meets (s1) (by simp only [aev,cv,cvc,yad,yag,yak,zM,zX,zR,isC,bsD,zr] <;> rfl) ?_; simp only [yab,zY,zQ,zz,zk,zq,isCallV,zV,zW,zA,yas,zO,yay,yao,zB,pureOp,apureO,astepO,killT,aev,cv,cvc,yal,yaf,storeA,cellsA,cellOk,setAll,yai,yaq,yar,yat,yan,yaj,yah,zS,zZ,zP,zN,isC,bsD,zg,↓reduceIte,za,zb,zj,zl,zu,zw,zK,zL,zf,zH,zI,zh,zx,zU,yac,yaa,zp,zT,zD,zF,Value.oneCell',true_and,and_true,and_self,reduceCtorEq,Nat.reduceAdd,Nat.reduceEqDiff,zy,zo,zG,zE,Ty.td24]
      refine call_meets (s2) (by simp only [aev,cv,cvc,yad,yag,yak,zM,zX,zR,isC,bsD,zr] <;> rfl) ?_; simp only [yab,zY,zQ,zz,zk,zq,isCallV,zV,zW,zA,yas,zO,yay,yao,zB,pureOp,apureO,astepO,killT,aev,cv,cvc,yal,yaf,storeA,cellsA,cellOk,setAll,yai,yaq,yar,yat,yan,yaj,yah,zS,zZ,zP,zN,isC,bsD,zg,↓reduceIte,za,zb,zj,zl,zu,zw,zK,zL,zf,zH,zI,zh,zx,zU,yac,yaa,zp,zT,zD,zF,Value.oneCell',true_and,and_true,and_self,reduceCtorEq,Nat.reduceAdd,Nat.reduceEqDiff,zy,zo,zG,zE,Ty.td24]
      refine call_meets (s3) (by simp only [aev,cv,cvc,yad,yag,yak,zM,zX,zR,isC,bsD,zr] <;> rfl) ?_; simp only [yab,zY,zQ,zz,zk,zq,isCallV,zV,zW,zA,yas,zO,yay,yao,zB,pureOp,apureO,astepO,killT,aev,cv,cvc,yal,yaf,storeA,cellsA,cellOk,setAll,yai,yaq,yar,yat,yan,yaj,yah,zS,zZ,zP,zN,isC,bsD,zg,↓reduceIte,za,zb,zj,zl,zu,zw,zK,zL,zf,zH,zI,zh,zx,zU,yac,yaa,zp,zT,zD,zF,Value.oneCell',true_and,and_true,and_self,Nat.reduceAdd,Nat.reduceEqDiff,zy,zo,zG,zE,Ty.td24]
      refine call_meets (s4) (by simp only [aev,cv,cvc,yad,yag,yak,zM,zX,zR,isC,bsD,zr] <;> rfl) ?_; simp only [yab,zY,zQ,zz,zk,zJ,zq,isCallV,zA,yas,zO,yay,yao,zB,pureOp,apureO,astepO,killT,aev,cv,cvc,binK,yal,storeA,cellsA,cellOk,setAll,yieldA,yai,yaq,yar,yat,yan,yaj,yah,zS,zZ,zP,zN,isC,bsD,zg,↓reduceIte,za,zb,zj,zl,zu,zw,zK,zL,zf,zH,zI,zd,zi,zU,yac,yaa,zp,zT,zD,zF,Value.oneCell',true_and,and_true,and_self,Nat.reduceAdd,Nat.reduceEqDiff,zy,zo,zG,Ty.td24]
      by_cases j1 : w1e = 0
      · by_cases j2 : w2e = 0
        · have e := hd j1 j2
          cases e
          simp only [zk,zJ,zq,isCallV,zV,zW,yam,zA,zO,zB,pureOp,apureO,aev,cv,cvc,binK,yal,yaf,yieldA,guardA_tt,yae,yau,isC,bsD,zg,↓reduceIte,za,zb,zj,zl,zu,zw,zf,zd,zi,zh,zx,zp,true_and,Nat.reduceAdd,Nat.reduceEqDiff,zy,zG,zE,Ty.td24,show (w1e != 0) = false by simpa using j1,show (w2e != 0) = false by simpa using j2,beq_self_eq_true]
          refine call_meets (refEqual w3c w3t w3c w3t (by omega) (by omega)) (by simp only [aev,cv,cvc,yad,yag,yak,zM,zX,zR,isC,bsD,zr] <;> rfl) ?_; simp only [yaz,zQ,zz,zk,zJ,zq,yam,zA,zO,yao,zB,yaA,pureOp,apureO,killT,aev,cv,cvc,yieldA,yae,yaB,yau,yai,yah,zS,zZ,zP,zN,yad,notExit,yaw,yax,yaD,isC,bsD,↓reduceIte,za,zb,zf,zd,zi,zp,zF,true_and,Nat.reduceEqDiff,zo]
          simp only [aev,cv,cvc,isC,bsD,eqE_refl]
        · simp only [yaz,zQ,zz,zk,zJ,zq,yam,zA,zO,zB,yaA,pureOp,apureO,aev,cv,cvc,binK,yieldA,guardA_no,yaC,yae,yaB,yau,yad,notExit,yaw,yax,yaD,isC,bsD,↓reduceIte,za,zb,zd,zi,zD,and_self,Nat.reduceEqDiff,show (w1e != 0) = false by simpa using j1,show (w2e != 0) = true by simpa using j2]
      · simp only [yaz,zQ,zz,zk,zJ,zq,zA,zO,zB,yaA,pureOp,apureO,aev,cv,cvc,yieldA,guardA_no,yaC,yaB,yad,notExit,yaw,yax,yaD,isC,bsD,↓reduceIte,za,zb,zd,zi,zD,and_self,Nat.reduceEqDiff,show (w1e != 0) = true by simpa using j1]

theorem end_ (W : World) (_ : True) {v0 : Value} (n0 : Nat) (a0 : List AV) (f0 : Fits Tryz.prog n0 50 a0) (h0 : RepD (fun b => b < W.heap.size) W (.agg a0) v0) (x1 : Int) (_ : (Lit.int .i64 x1).wf = true) :
    Calls Tryz.prog 6 #[v0, .int .i64 x1] W fun e w' => e = .returned (.bool true) ∧ Below W.heap.size W w' := by
  obtain ⟨c1, t1, c2, t2, c3, t3, rfl, l1, l2, l3⟩ := LFit.three_ f0
  exact law_of (law c1 t1 l1 c2 t2 l2 c3 t3 l3 x1) (vs := [v0, .int .i64 x1]) ⟨_, _, rfl, h0, _, _, rfl, rfl, rfl⟩

end Go.Proofs.YtjgaebomcdkohaaGreatDoor.L34
