/- Linear expressions: the reference's sums, in the program. -/
import Derived.Test.YtjgaebomcdkohaaGreatDoorL22
import Derived.Test.YtjgaebomcdkohaaGreatDoorL26
import Derived.Test.YtjgaebomcdkohaaGreatDoorL29
namespace Go.Proofs.YtjgaebomcdkohaaGreatDoor.L27
open Go Go.Proofs.YtjgaebomcdkohaaGreatDoor.Eng Go.Proofs.YtjgaebomcdkohaaGreatDoor Go.RowKit Go.Proofs.YtjgaebomcdkohaaGreatDoor.L1 Go.Proofs.YtjgaebomcdkohaaGreatDoor.L2 Go.Proofs.YtjgaebomcdkohaaGreatDoor.L3 Go.Proofs.YtjgaebomcdkohaaGreatDoor.L6 Go.Proofs.YtjgaebomcdkohaaGreatDoor.L16 Go.Proofs.YtjgaebomcdkohaaGreatDoor.L17 Go.Proofs.YtjgaebomcdkohaaGreatDoor.L19 Go.Proofs.YtjgaebomcdkohaaGreatDoor.L20 Go.Proofs.YtjgaebomcdkohaaGreatDoor.L21 Go.Proofs.YtjgaebomcdkohaaGreatDoor.L22 Go.Proofs.YtjgaebomcdkohaaGreatDoor.L25 Go.Proofs.YtjgaebomcdkohaaGreatDoor.L26
open _root_.List renaming getElem?_cons_zero → za, getElem?_cons_succ → zb, append_nil → zf, length_cons → zg, take_succ_cons → zh, length_nil → zi, drop_zero → zo, map_nil → zq, map_cons → zu, take_nil → zx, isEmpty_nil → zD, getElem?_toArray → zF, all_cons → zJ, set_cons_zero → zK, set_cons_succ → zL, all_nil → zP, cons_append → zV, nil_append → zW, length_map → yay, drop_succ_cons → yaG, getElem?_nil → yaK
open _root_.Bool renaming false_eq_true → zd, true_and → zl, and_self → zz, or_true → zI, and_true → yae, not_true → yam, and_false → yan, not_false → yaq
open _root_.Option renaming map_some → zj, bind_some → zN, isSome_some → yar
open _root_.Go.Proofs.YtjgaebomcdkohaaGreatDoor.Eng renaming awpOps_one → zk, awpOp_is → zp, slot_is → zw, awpOps_nil → zA, putK_is → zB, consO_some → zE, toDL_cons → zG, toDL_nil → zH, put_s → zM, seqQ_n → zO, ownsL_cons → zQ, loadA_p → zR, toD_agg → zS, ownsL_nil → zT, awp_reg → zU, awp_seq → zX, ownsV_agg → zY, elO_s → zZ, toD_c → yaa, callW_is → yab, callV_is → yac, ownsV_c → yad, updK_is → yaf, upd_s → yag, ownsV_sl → yah, toD_sl → yai, awpOps_if → yaj, awp_cond → yak, flat_c → yal, resA_cell → yao, resA_nil → yap, awp_ret → yas, retA_is → yat, toD_nils → yau, resA_tmp → yav, flatL_cons → yaw, toD_tup → yax, flatL_nil → yaz, guardA_ff → yaA, condA_t → yaB, awp_skip → yaC, flat_agg → yaD, upd_n → yaE, oneA_2 → yaF, flat_sl → yaH, condA_f → yaI, awpO_is → yaJ, mlenA_sl → yaL
open _root_.Nat renaming zero_add → zr, le_refl → zy
set_option linter.unusedSimpArgs false
set_option linter.unusedVariables false
set_option linter.unusedSectionVars false
set_option maxRecDepth 100000

theorem insP_len (s : ByteArray) (x : Int) : ∀ l : List Tm, (insP s x l).length ≤ l.length + 1
  | [] => by simp [insP]
  | t :: r => by
    unfold insP
    split
    · simp
    · split
      · simp
      · simpa using insP_len s x r
theorem plus_len (s : ByteArray) (x : Int) (l : List Tm) : (plusT s x l).length ≤ l.length + 1 := Nat.le_trans (List.length_filter_le _ _) (insP_len s x l)
abbrev hT (c1 : Int) (t1 : List Tm) (c2 : Int) (t2 : List Tm) (c : Int) (i : Nat) (l : List Tm) : Heap := [some (.var 24 [I c1, tms t1]), some (.var 24 [I c2, tms t2]), some (.var 24 [I 0, .nils]), if i = 0 then some (.row 42 2 (l.map tmV)) else none, some (.var 24 [I c, if i = 0 then .own 3 2 l.length else tms l])]
set_option maxHeartbeats 1000000 in
theorem rtimes (c1 : Int) (t1 : List Tm) (c2 : Int) (t2 : List Tm) (k : Int) (hs : sortedT t1) (l1 : t1.length ≤ 10000) (l2 : t2.length ≤ 10000) : Meets Tryz.prog 41 [ln c1 t1, ln c2 t2, I k] (ln (timesE (c1, t1) (c2, t2) k).1 (timesE (c1, t1) (c2, t2) k).2) := by
  unfold timesE
  simp only
  refine meets_of (X := true) Ty.mixed Tryz.func41 (by kernel_rfl) rfl (by kernel_rfl) (by simp) ?_; rw [Tryz.ntmps41, Tryz.results41]
  simp only [awp_regX,zU,zX,zO,zA,zk,zp,isCallV,yaf,yag,zw,pureOp,astepO,killT,aev,cv,cvc,zZ,cellsA,cellOk,argT,isC,bsD,zd,↓reduceIte,zg,zi,zu,zq,zV,zW,zJ,zP,zl,zz,Value.oneCell',true_and,and_self,reduceCtorEq,Nat.reduceAdd,Nat.reduceEqDiff,zr,Ty.td24]
  refine drawS_wild ?_; simp (config := {maxSteps := 2000000}) only [zU,zX,awp_block,awp_loop,zO,zA,zk,zp,isCallV,zB,zM,zw,slot.eq_1,pureOp,apureO,astepO,bsF2_is,bsF1_is,bsEnd_is,appA_sl,appV,killT,killB,killH,aev,cv,cvc,binK,zZ,zR,storeA,cellsA,cellOk,setAll,fillA,placeT,placesA,elemsA,elemsN,rowE,chunk,dropL,isDL_nil,zT,zH,killV_c,killV_nils,killV_agg,killV_sl,killV_own,killV_ptr,killL_nil,killL_cons,bsF0_s,isC,bsD,zd,↓reduceIte,za,zb,zg,zi,zu,zq,zV,zW,zf,zK,zL,zj,Option.map_none,yaG,zo,zJ,zP,zl,zz,zI,Bool.true_or,Bool.false_or,Bool.or_false,Value.oneCell',true_and,and_self,ne_eq,not_false_eq_true,reduceCtorEq,Nat.reduceAdd,Nat.reduceMul,Nat.reduceLT,Nat.reduceLeDiff,Nat.reduceEqDiff,zr,List.mem_cons,List.not_mem_nil,or_false,false_or,List.range_succ,List.range_zero,decide_true,List.zipIdx_cons,List.zipIdx_nil,zy,List.drop_nil,zx,List.any_cons,List.any_nil,List.zip_nil_right,yaK,true_or,awpW_nil,awpW_one,wRun_is,wOp_is,keepK_is,stepK_is,contW_is,nextW_n,nextW_s,confs_nil,confs_cons,conf_is,meet_nil,meet_cons,opV_move,opV_alloc,opV_load,opV_binOp,opV_fieldAddr,opV_store,opV_build,opV_buildSlice,opV_builtin,tch_move,tch_alloc,tch_load,tch_binOp,tch_fieldAddr,tch_build,tch_buildSlice,tch_store,tch_app,rd_move,rd_alloc,rd_load,rd_binOp,rd_fieldAddr,rd_build,rd_buildSlice,rd_store,rd_app,namesV_c,namesV_nils,namesV_junk,namesV_sl,namesV_ptr,namesV_own,namesV_agg,namesL_nil,namesL_cons,namesH_nil,namesH_cons,namesB_var,namesB_row,namesB_none,killO_s,allLt_is,maskH_is,mergeH_is,setH_is,newL_is,refsT,refsH,refsV,refsL,Bool.or_self,true_or,Nat.reduceBEq,yaK,List.zip_nil_right,Ty.td3,Ty.td22,Ty.td24,Ty.td42]
  refine ⟨by rw [List.length_map]; omega, by rw [List.length_map]; omega, by kernel_rfl, ?_⟩
  refine loop_g (fun a : Nat × List Tm => a.1 ≤ t2.length ∧ timesT k t2 t1 = timesT k (t2.drop a.1) a.2 ∧ sortedT a.2 ∧ a.2.length ≤ 10000 + a.1) (fun a => ⟨45, [(8, I a.1), (7, .ptr 4 0), (6, .ptr 2 0), (4, .ptr 1 0), (2, I k)], hT c1 t1 c2 t2 (W (c1 + W (k * c2))) a.1 a.2⟩) (fun a => t2.length - a.1) (0, t1) ⟨Nat.zero_le _, rfl, hs, by simp only; omega⟩ (by simp only [zw,aev,cv,cvc,Weak,isC,bsD,↓reduceIte,yae,zz,and_true,and_self,reduceCtorEq,Nat.reduceEqDiff]; rfl) rfl (.inl (by simp [hT])) ?_
  rintro ⟨i, l⟩ ⟨hi, he, hss, hl⟩ K hK
  simp only at hi he hss hl ⊢
  rw [he]
  have htk : List.take l.length (List.map tmV l) = List.map tmV l := List.take_of_length_le (by simp)
  by_cases hlt : i < t2.length
  · have ht : t2[i]? = some t2[i] := List.getElem?_eq_getElem hlt
    rw [List.drop_eq_getElem_cons hlt, timesT] at he
    generalize t2[i] = t at *
    have hp := rplus (W (c1 + W (k * c2))) l t.1 (W (k * t.2)) (sorted_ris hss) (by omega)
    have hstep := fun σ' => hK (i + 1, plusT t.1 (W (k * t.2)) l) σ' ⟨by simp only; omega, he, plus_sorted _ _ hss, by have := plus_len t.1 (W (k * t.2)) l; simp only; omega⟩ (by simp only; omega)
    cases i with
    | zero =>
      simp only [hT,if_true]
      simp only [awp_regX,yaC,zU,zX,yak,awp_block,zO,zA,zk,zp,zB,zM,zw,pureOp,apureO,aev,cv,cvc,binK,zZ,lenA,lenK,zR,yaB,yaL,isC,bsD,zd,↓reduceIte,za,zb,zg,zi,zo,zl,true_and,ne_eq,not_false_eq_true,reduceCtorEq,Nat.reduceAdd,Nat.reduceEqDiff,zr,yar,Ty.td22,Ty.td24,show decide (((0 : Nat) : Int) < (t2.length : Int)) = true from decide_eq_true (by omega),yay,ht]
      refine drawS_wild ?_; simp (config := {maxSteps := 2000000}) only [isCallV,zw,pureOp,apureO,killT,killB,aev,cv,cvc,binK,zZ,loadA_d,zR,killV_c,killV_nils,killV_sl,killV_own,killL_nil,killL_cons,isC,bsD,Int.natCast_nonneg,zd,↓reduceIte,za,zb,zg,zi,zu,zq,zV,zW,zf,zj,zh,yaG,zo,zJ,zP,zl,zz,Bool.false_or,Bool.or_false,true_and,and_self,ne_eq,not_false_eq_true,reduceCtorEq,Nat.reduceAdd,Nat.reduceLT,Nat.reduceLeDiff,Nat.reduceEqDiff,zr,List.mem_cons,List.not_mem_nil,or_false,false_or,Int.toNat_natCast,List.range_succ,List.range_zero,decide_true,List.zipIdx_cons,List.zipIdx_nil,zy,List.drop_nil,zx,awpW_one,wRun_is,wOp_is,callXW_is,callXV_is,keepK_is,contW_is,nextW_s,confs_nil,confs_cons,conf_is,meet_nil,opV_move,opV_load,opV_binOp,opV_fieldAddr,opV_indexAddr,opV_call,tch_move,tch_load,tch_binOp,tch_fieldAddr,tch_indexAddr,rd_move,rd_load,rd_binOp,rd_fieldAddr,rd_indexAddr,rd_callv,namesV_c,namesV_sl,namesV_dptr,namesV_ptr,namesV_own,namesV_agg,namesV_fn,namesL_nil,namesL_cons,namesH_nil,namesH_cons,namesB_var,namesB_row,namesB_none,killO_s,allLt_is,maskH_is,mergeH_is,setH_is,newL_is,refsT,refsH,refsV,refsL,Bool.or_self,Ty.td3,Ty.td9,Ty.td22,Ty.td24,Ty.td42,List.getElem?_map,ht]
      refine callx_freeze (hp) (by simp (config := {maxSteps := 2000000}) only [aev,cv,cvc,elemsA,yaa,zS,toD_own,zE,zH,zG,isC,bsD,↓reduceIte,za,zb,zj,zz,and_self,zy,yay,zy,htk] <;> rfl) (by simp (config := {maxSteps := 2000000}) only [aev,cv,cvc,yal,yaD,yaH,yaz,yaw,yad,zY,ownsV_own,zT,zQ,isC,bsD,zW,zf,yae,yan,and_true,List.isEmpty_cons,Bool.or_self,htk]) ?_; simp (config := {maxSteps := 2000000}) only [zU,zO,loopQ_n,blkQ_n,zA,zk,zp,isCallV,zB,zM,zw,pureOp,apureO,astepO,killT,killB,killH,aev,cv,cvc,binK,zZ,storeA,cellsA,cellOk,setAll,elemsA,dropL,yad,zY,ownsV_own,zT,zQ,killV_c,killV_nils,killV_agg,killV_sl,killV_own,killV_dptr,killV_ptr,killL_nil,killL_cons,isC,bsD,zd,↓reduceIte,za,zb,zg,zi,zu,zq,zV,zW,zf,zK,zL,Option.map_none,yaG,zJ,zP,zl,zz,zI,Bool.or_false,true_and,and_self,reduceCtorEq,Nat.reduceAdd,Nat.reduceLT,Nat.reduceLeDiff,Nat.reduceEqDiff,zr,List.mem_cons,List.not_mem_nil,or_false,List.range_succ,List.range_zero,decide_true,List.zipIdx_cons,List.zipIdx_nil,zy,List.drop_nil,List.any_cons,List.any_nil,yaK,awpW_nil,awpW_one,wRun_is,wOp_is,stepK_is,contW_is,nextW_n,nextW_s,confs_nil,confs_cons,conf_is,meet_nil,meet_cons,opV_store,opV_call,tch_callv,tch_store,rd_callv,rd_store,namesV_c,namesV_junk,namesV_sl,namesV_ptr,namesV_own,namesV_agg,namesV_fn,namesL_nil,namesL_cons,namesH_nil,namesH_cons,namesB_var,namesB_row,namesB_none,killO_s,killO_n,allLt_is,maskH_is,mergeH_is,setH_is,newL_is,Bool.or_self,Nat.reduceBEq,yaK,Ty.td24,zy,htk]
      refine ⟨by kernel_rfl, ?_⟩
      rw [wrap_in (x := ((0 : Nat) : Int) + 1) (by omega) (by omega)]
      refine hstep _ ?_ rfl (.inl ?_)
      · simp only [zw,aev,cv,cvc,Weak,isC,bsD,↓reduceIte,yae,zz,and_true,and_self,Nat.reduceEqDiff,zr]
        simp
      · simp [hT]
    | succ i =>
      simp only [hT,Nat.add_one_ne_zero,if_false]
      simp only [awp_regX,yaC,zU,zX,yak,awp_block,zO,zA,zk,zp,zB,zM,zw,pureOp,apureO,aev,cv,cvc,binK,zZ,lenA,lenK,zR,yaB,yaL,isC,bsD,zd,↓reduceIte,za,zb,zg,zi,zl,true_and,ne_eq,not_false_eq_true,reduceCtorEq,Nat.reduceAdd,Nat.reduceEqDiff,zr,yar,Ty.td22,Ty.td24,show decide (((i + 1 : Nat) : Int) < (t2.length : Int)) = true from decide_eq_true (by omega),yay,ht]
      refine drawS_tail (by kernel_rfl) ?_; simp only [awpOpsD_one,isCallV,awpOpD_is,callWD_is,callVD_is,zB,zM,zw,keepOp,pureOp,apureO,aev,cv,cvc,binK,zZ,loadA_d,zR,isC,bsD,Int.natCast_nonneg,zd,↓reduceIte,za,zb,zg,zi,zu,zq,zf,zj,zh,yaG,zo,zl,true_and,ne_eq,not_false_eq_true,reduceCtorEq,Nat.reduceAdd,Nat.reduceEqDiff,zr,Int.toNat_natCast,zy,zx,Ty.td3,Ty.td9,Ty.td22,Ty.td24,Ty.td42,List.getElem?_map,ht]
      refine calld_meets (hp) (by simp only [aev,cv,cvc,yaa,zS,yai,zE,zH,zG,isC,bsD,zj] <;> rfl) (by simp only [aev,cv,cvc,yal,yaD,yaH,yaz,yaw,yad,zY,yah,zT,zQ,isC,bsD,zf,yae,yan,zI,and_true,zD]) ?_; simp only [zU,zO,loopQ_n,blkQ_n,zA,zk,awpOpsD_one,zp,isCallV,zB,yaf,zM,yaE,zw,keepOp,pureOp,apureO,astepO,killT,aev,cv,cvc,binK,zZ,storeA,cellsA,cellOk,setAll,isC,bsD,zd,↓reduceIte,za,zb,zg,zi,zK,zL,zl,true_and,Nat.reduceAdd,Nat.reduceEqDiff,zr,zy,Ty.td24]
      rw [wrap_in (x := ((i + 1 : Nat) : Int) + 1) (by omega) (by omega)]
      refine hstep _ ?_ rfl (.inl ?_)
      · simp only [zw,aev,cv,cvc,Weak,isC,bsD,↓reduceIte,yae,zz,and_true,and_self,Nat.reduceEqDiff]
        simp
      · simp [hT]
  · have h0 : t2.drop i = [] := List.drop_eq_nil_of_le (by omega)
    rw [h0, timesT]
    cases i with
    | zero =>
      simp only [hT,if_true]
      simp only [zU,zX,yak,awp_exit,yas,zO,seqQ_e,loopQ_e,blkQ_e,zA,zk,zp,isCallV,zB,yaf,zM,yaE,zw,yat,pureOp,apureO,astepO,killT,aev,cv,cvc,binK,zZ,lenA,lenK,zR,storeA,cellsA,cellOk,setAll,yaI,elemsA,yaa,yau,zS,toD_own,zE,zH,zG,notExit,yap,yao,oneA_1,yaL,isC,bsD,zd,↓reduceIte,za,zb,zg,zi,zK,zL,zj,zh,zo,yae,zl,zz,Value.oneCell',true_and,and_true,and_self,ne_eq,not_false_eq_true,reduceCtorEq,Nat.reduceAdd,Nat.reduceLeDiff,Nat.reduceEqDiff,zr,yar,zy,zx,Ty.td22,Ty.td24,show decide (((0 : Nat) : Int) < (t2.length : Int)) = false from decide_eq_false (by omega),yay,zy,htk]
    | succ i =>
      simp only [hT,Nat.add_one_ne_zero,if_false]
      simp only [zU,zX,yak,awp_exit,yas,zO,seqQ_e,loopQ_e,blkQ_e,zA,zk,zp,isCallV,zB,yaf,zM,yaE,zw,yat,pureOp,apureO,astepO,killT,aev,cv,cvc,binK,zZ,lenA,lenK,zR,storeA,cellsA,cellOk,setAll,yaI,yaa,yau,zS,yai,zE,zH,zG,notExit,yap,yao,oneA_1,yaL,isC,bsD,zd,↓reduceIte,za,zb,zg,zi,zK,zL,zj,zh,zo,yae,zl,zz,Value.oneCell',true_and,and_true,and_self,ne_eq,not_false_eq_true,reduceCtorEq,Nat.reduceAdd,Nat.reduceLeDiff,Nat.reduceEqDiff,zr,yar,zy,zx,Ty.td22,Ty.td24,show decide (((i + 1 : Nat) : Int) < (t2.length : Int)) = false from decide_eq_false (by omega),yay]

theorem of_args {P : Program} {f : FuncId} {args args' : List AV} {res : AV} (h : Meets P f args res) (hi : ∀ ok w l, RepDL ok w args' l → RepDL ok w args l) : Meets P f args' res := ⟨h.1, fun ok w vs hok hd => h.2 ok w vs hok (hi _ _ _ hd)⟩
theorem lnN {c : Int} {ok : Nat → Prop} {w : World} {u : Value} (h : RepD ok w (.agg [I c, .nils]) u) : RepD ok w (ln c []) u := agg_imp (fun us h => cons_imp (fun _ h => h) (fun us h => cons_imp (fun u h => nil_imp h) (fun _ h => h) h) h) h
theorem rtimesN (c1 : Int) (c2 : Int) (t2 : List Tm) (k : Int) (l2 : t2.length ≤ 10000) : Meets Tryz.prog 41 [.agg [I c1, .nils], ln c2 t2, I k] (ln (timesE (c1, []) (c2, t2) k).1 (timesE (c1, []) (c2, t2) k).2) :=
  of_args (rtimes c1 [] c2 t2 k trivial (by simp) l2) fun ok w l h => cons_imp (fun u h => lnN h) (fun _ h => h) h
theorem rlimited (c : Int) (ts : List Tm) (hs : small ts) : Meets Tryz.prog 40 [ln c ts] (linR (limE (c, ts))) := by
  unfold limE
  cases hv : validE c ts with
  | false =>
    refine Meets.weak (r0 := .tup [.agg [I 0, .nils], I 3]) ?_ fun ok w v h => zero_imp h
    refine meets_of (X := true) Ty.mixed Tryz.func40 (by kernel_rfl) rfl (by kernel_rfl) (by simp) ?_; rw [Tryz.ntmps40, Tryz.results40]
    simp only [zU,zX,zO,zA,zk,zp,isCallV,yab,yac,zB,yaf,zM,yag,zw,pureOp,apureO,astepO,killT,aev,cv,cvc,zZ,zR,cellsA,cellOk,argT,isC,bsD,zd,↓reduceIte,za,zg,zi,zu,zq,zV,zW,zf,zh,zo,zJ,zP,zl,zz,Value.oneCell',true_and,and_self,Nat.reduceAdd,Nat.reduceEqDiff,zr,zy,zx,Ty.td24]
    refine call_meets (rvalid c ts hs) (by simp only [aev,cv,cvc,yaa,zS,yai,zE,zH,zG,isC,bsD,zj] <;> rfl) ?_; simp only [yak,zO,zA,zk,zp,zB,zM,yag,zw,pureOp,apureO,killT,aev,cv,cvc,yal,yad,zY,yah,zT,zQ,isC,bsD,↓reduceIte,zf,zI,zD]
    simp only [zU,zX,yas,zO,seqQ_r,zA,zk,zp,isCallV,zB,yaf,zM,yaE,zw,slot.eq_1,yat,pureOp,apureO,astepO,killT,aev,cv,cvc,zZ,zR,storeA,cellsA,cellOk,setAll,fillA,placeT,placesA,yaB,yaa,yau,yax,zS,zE,zH,zG,notExit,yap,yav,yao,yaF,isC,bsD,zd,↓reduceIte,za,zb,zg,zi,zu,zq,zK,zL,zj,zh,zo,zJ,zP,zl,zz,yaq,Value.oneCell',true_and,and_self,ne_eq,not_false_eq_true,reduceCtorEq,Nat.reduceAdd,Nat.reduceEqDiff,zr,zy,zx,Ty.td3,Ty.td22,Ty.td24,hv]
  | true =>
    refine meets_of (X := true) Ty.mixed Tryz.func40 (by kernel_rfl) rfl (by kernel_rfl) (by simp) ?_; rw [Tryz.ntmps40, Tryz.results40]
    simp only [zU,zX,zO,zA,zk,zp,isCallV,yab,yac,zB,yaf,zM,yag,zw,pureOp,apureO,astepO,killT,aev,cv,cvc,zZ,zR,cellsA,cellOk,argT,isC,bsD,zd,↓reduceIte,za,zg,zi,zu,zq,zV,zW,zf,zh,zo,zJ,zP,zl,zz,Value.oneCell',true_and,and_self,Nat.reduceAdd,Nat.reduceEqDiff,zr,zy,zx,Ty.td24]
    refine call_meets (rvalid c ts hs) (by simp only [aev,cv,cvc,yaa,zS,yai,zE,zH,zG,isC,bsD,zj] <;> rfl) ?_; simp only [yak,zO,zA,zk,zp,zB,zM,yag,zw,pureOp,apureO,killT,aev,cv,cvc,yal,yad,zY,yah,zT,zQ,isC,bsD,↓reduceIte,zf,zI,zD]
    simp only [yaC,zU,zX,yas,zO,zA,zk,zp,isCallV,zB,yaf,zM,yaE,zw,yat,pureOp,apureO,astepO,killT,aev,cv,cvc,zZ,zR,storeA,cellsA,cellOk,setAll,yaI,yaa,yau,yax,zS,yai,zE,zH,zG,notExit,yap,yav,yao,yaF,isC,bsD,zd,↓reduceIte,za,zb,zg,zi,zK,zL,zj,zh,zo,zl,zz,yam,Value.oneCell',true_and,and_self,Nat.reduceAdd,Nat.reduceLeDiff,Nat.reduceEqDiff,zr,zy,zx,Ty.td24,hv]

def addR (a b : Int × List Tm) (k : Int) : (Int × List Tm) × Int := if validE a.1 a.2 = true ∧ validE b.1 b.2 = true then limE (timesE a b k) else ((0, []), 1)
theorem addR_is (a b : Int × List Tm) (k : Int) : combineE a b k = addR a b k := by
  unfold addR
  split
  · rename_i h; exact combine_is k h.1 h.2
  · rename_i h
    unfold combineE
    rw [if_pos]
    cases h1 : validE a.1 a.2 <;> cases h2 : validE b.1 b.2 <;> simp_all
theorem timesT_len (k : Int) : ∀ (ts l : List Tm), (timesT k ts l).length ≤ l.length + ts.length
  | [], l => by simp [timesT]
  | t :: r, l => by
    have h1 := timesT_len k r (plusT t.1 (W (k * t.2)) l)
    have h2 := plus_len t.1 (W (k * t.2)) l
    simp only [timesT,zg]
    omega
theorem times_small (k : Int) {a b : Int × List Tm} (h1 : small a.2) (h2 : small b.2) (hl : a.2.length + b.2.length ≤ 10000) : small (timesE a b k).2 := by
  refine ⟨?_, ?_⟩
  · have := timesT_len k b.2 a.2
    show (timesT k b.2 a.2).length ≤ _
    omega
  · exact L29.times_all (P := fun v => v.size ≤ 1000000) k b.2 h1.2 h2.2
theorem radd (c1 : Int) (t1 : List Tm) (c2 : Int) (t2 : List Tm) (h1 : small t1) (h2 : small t2) : Meets Tryz.prog 13 [ln c1 t1, ln c2 t2] (linR (addR (c1, t1) (c2, t2) 1)) := by
  unfold addR
  simp only
  cases hv : validE c1 t1 with
  | false =>
    rw [if_neg (by simp)]
    refine Meets.weak (r0 := .tup [.agg [I 0, .nils], I 1]) ?_ fun ok w v h => zero_imp h
    refine meets_of (X := true) Ty.mixed Tryz.func13 (by kernel_rfl) rfl (by kernel_rfl) (by simp) ?_; rw [Tryz.ntmps13, Tryz.results13]
    simp only [zU,zX,zO,zA,zk,zp,isCallV,yab,yac,zB,yaf,zM,yag,zw,pureOp,apureO,astepO,killT,aev,cv,cvc,zZ,zR,cellsA,cellOk,argT,isC,bsD,zd,↓reduceIte,za,zg,zi,zu,zq,zV,zW,zf,zh,zo,zJ,zP,zl,zz,Value.oneCell',true_and,and_self,reduceCtorEq,Nat.reduceAdd,Nat.reduceEqDiff,zr,zy,zx,Ty.td24]
    refine call_meets (rvalid c1 t1 h1) (by simp only [aev,cv,cvc,yaa,zS,yai,zE,zH,zG,isC,bsD,zj] <;> rfl) ?_; simp only [zk,yaj,zp,zB,zM,yag,zw,pureOp,apureO,killT,aev,cv,cvc,yieldA,yal,yad,zY,yah,zT,zQ,isC,bsD,↓reduceIte,za,zb,zf,zF,zN,zI,zD]
    simp only [zU,zX,yak,yas,zO,seqQ_r,zA,zk,yaj,zp,isCallV,zB,yaf,zM,yaE,zw,slot.eq_1,yat,pureOp,apureO,astepO,killT,aev,cv,cvc,zZ,zR,storeA,cellsA,cellOk,setAll,fillA,placeT,placesA,yieldA,guardA_ft,yaB,pickA_t,yaa,yau,yax,zS,zE,zH,zG,notExit,yap,yav,yao,yaF,isC,bsD,zd,↓reduceIte,za,zb,zg,zi,zu,zq,zK,zL,zF,zN,zj,zh,zo,zJ,zP,zl,zz,yaq,Value.oneCell',true_and,and_self,ne_eq,not_false_eq_true,reduceCtorEq,Nat.reduceAdd,Nat.reduceEqDiff,zr,zy,zx,Ty.td3,Ty.td22,Ty.td24,hv]
  | true =>
    cases hu : validE c2 t2 with
    | false =>
      rw [if_neg (by simp)]
      refine Meets.weak (r0 := .tup [.agg [I 0, .nils], I 1]) ?_ fun ok w v h => zero_imp h
      refine meets_of (X := true) Ty.mixed Tryz.func13 (by kernel_rfl) rfl (by kernel_rfl) (by simp) ?_; rw [Tryz.ntmps13, Tryz.results13]
      simp only [zU,zX,zO,zA,zk,zp,isCallV,yab,yac,zB,yaf,zM,yag,zw,pureOp,apureO,astepO,killT,aev,cv,cvc,zZ,zR,cellsA,cellOk,argT,isC,bsD,zd,↓reduceIte,za,zg,zi,zu,zq,zV,zW,zf,zh,zo,zJ,zP,zl,zz,Value.oneCell',true_and,and_self,reduceCtorEq,Nat.reduceAdd,Nat.reduceEqDiff,zr,zy,zx,Ty.td24]
      refine call_meets (rvalid c1 t1 h1) (by simp only [aev,cv,cvc,yaa,zS,yai,zE,zH,zG,isC,bsD,zj] <;> rfl) ?_; simp only [zk,yaj,zp,zB,zM,yag,zw,pureOp,apureO,killT,aev,cv,cvc,yieldA,yal,yad,zY,yah,zT,zQ,isC,bsD,↓reduceIte,za,zb,zf,zF,zN,zI,zD]
      simp only [yaj,zp,isCallV,yab,yac,yaJ,zB,zM,zw,pureOp,apureO,aev,cv,cvc,zZ,zR,yieldA,yaA,isC,bsD,zd,↓reduceIte,za,zb,zg,zi,zu,zq,zf,zF,zN,zh,zo,zl,yam,true_and,Nat.reduceAdd,Nat.reduceEqDiff,zr,zy,zx,Ty.td24,hv]
      refine call_meets (rvalid c2 t2 h2) (by simp only [aev,cv,cvc,yaa,zS,yai,zE,zH,zG,isC,bsD,zj] <;> rfl) ?_; simp only [yak,zO,zA,zk,yaj,zp,yaJ,zB,zM,yag,zw,pureOp,apureO,killT,aev,cv,cvc,yieldA,yaA,pickA_f,yal,yad,zY,yah,zT,zQ,isC,bsD,↓reduceIte,za,zb,zf,zF,zN,zI,Nat.reduceEqDiff,zD]
      simp only [zU,zX,yas,zO,seqQ_r,zA,zk,zp,isCallV,zB,yaf,zM,yaE,zw,slot.eq_1,yat,pureOp,apureO,astepO,killT,aev,cv,cvc,zZ,zR,storeA,cellsA,cellOk,setAll,fillA,placeT,placesA,yaB,yaa,yau,yax,zS,zE,zH,zG,notExit,yap,yav,yao,yaF,isC,bsD,zd,↓reduceIte,za,zb,zg,zi,zu,zq,zK,zL,zj,zh,zo,zJ,zP,zl,zz,yaq,Value.oneCell',true_and,and_self,ne_eq,not_false_eq_true,reduceCtorEq,Nat.reduceAdd,Nat.reduceEqDiff,zr,zy,zx,Ty.td3,Ty.td22,Ty.td24,hu]
    | true =>
      rw [if_pos ⟨rfl, rfl⟩]
      obtain ⟨_, l1, s1, _⟩ := valid_parts hv
      obtain ⟨_, l2, s2, _⟩ := valid_parts hu
      refine meets_of (X := true) Ty.mixed Tryz.func13 (by kernel_rfl) rfl (by kernel_rfl) (by simp) ?_; rw [Tryz.ntmps13, Tryz.results13]
      simp only [zU,zX,zO,zA,zk,zp,isCallV,yab,yac,zB,yaf,zM,yag,zw,pureOp,apureO,astepO,killT,aev,cv,cvc,zZ,zR,cellsA,cellOk,argT,isC,bsD,zd,↓reduceIte,za,zg,zi,zu,zq,zV,zW,zf,zh,zo,zJ,zP,zl,zz,Value.oneCell',true_and,and_self,reduceCtorEq,Nat.reduceAdd,Nat.reduceEqDiff,zr,zy,zx,Ty.td24]
      refine call_meets (rvalid c1 t1 h1) (by simp only [aev,cv,cvc,yaa,zS,yai,zE,zH,zG,isC,bsD,zj] <;> rfl) ?_; simp only [zk,yaj,zp,zB,zM,yag,zw,pureOp,apureO,killT,aev,cv,cvc,yieldA,yal,yad,zY,yah,zT,zQ,isC,bsD,↓reduceIte,za,zb,zf,zF,zN,zI,zD]
      simp only [yaj,zp,isCallV,yab,yac,yaJ,zB,zM,zw,pureOp,apureO,aev,cv,cvc,zZ,zR,yieldA,yaA,isC,bsD,zd,↓reduceIte,za,zb,zg,zi,zu,zq,zf,zF,zN,zh,zo,zl,yam,true_and,Nat.reduceAdd,Nat.reduceEqDiff,zr,zy,zx,Ty.td24,hv]
      refine call_meets (rvalid c2 t2 h2) (by simp only [aev,cv,cvc,yaa,zS,yai,zE,zH,zG,isC,bsD,zj] <;> rfl) ?_; simp only [yak,zO,zA,zk,yaj,zp,yaJ,zB,zM,yag,zw,pureOp,apureO,killT,aev,cv,cvc,yieldA,yaA,pickA_f,yal,yad,zY,yah,zT,zQ,isC,bsD,↓reduceIte,za,zb,zf,zF,zN,zI,Nat.reduceEqDiff,zD]
      simp only [yaC,zU,zX,zO,zk,zp,isCallV,yab,yac,zB,zM,zw,pureOp,apureO,aev,cv,cvc,zZ,zR,yaI,isC,bsD,zd,↓reduceIte,za,zb,zg,zi,zu,zq,zf,zh,zo,zl,yam,true_and,Nat.reduceAdd,Nat.reduceEqDiff,zr,zy,zx,Ty.td24,hu]
      refine call_meets (rtimes c1 t1 c2 t2 1 s1 (by omega) (by omega)) (by simp only [aev,cv,cvc,yaa,zS,yai,zE,zH,zG,isC,bsD,zj] <;> rfl) ?_; simp only [zk,zp,isCallV,yab,yac,yag,zw,pureOp,killT,aev,cv,cvc,yal,yaD,yaH,yaz,yaw,yad,zY,yah,zT,zQ,isC,bsD,zd,↓reduceIte,zu,zq,zf,yae,yan,zI,and_true,zD]
      refine call_meets (rlimited (timesE (c1, t1) (c2, t2) 1).1 (timesE (c1, t1) (c2, t2) 1).2 (times_small 1 (a := (c1, t1)) (b := (c2, t2)) h1 h2 (by simp only; omega))) (by simp only [aev,cv,cvc,yaa,zS,yai,zE,zH,zG,isC,bsD,zj] <;> rfl) ?_; simp only [yas,zO,zA,zk,zp,isCallV,zB,yaf,zM,yaE,yag,zw,yat,pureOp,apureO,astepO,killT,aev,cv,cvc,zZ,zR,storeA,cellsA,cellOk,setAll,yal,flat_tup,yaD,yaH,yaz,yaw,yad,zY,yah,zT,zQ,yaa,yax,zS,yai,zE,zH,zG,notExit,yap,yav,yao,yaF,isC,bsD,zd,↓reduceIte,za,zb,zg,zi,zf,zK,zL,zj,zh,zo,yae,zl,yan,zz,zI,true_and,and_true,and_self,Nat.reduceAdd,Nat.reduceEqDiff,zr,zD,zy,zx,Ty.td24]
theorem rsub (c1 : Int) (t1 : List Tm) (c2 : Int) (t2 : List Tm) (h1 : small t1) (h2 : small t2) : Meets Tryz.prog 15 [ln c1 t1, ln c2 t2] (linR (addR (c1, t1) (c2, t2) (-1))) := by
  unfold addR
  simp only
  cases hv : validE c1 t1 with
  | false =>
    rw [if_neg (by simp)]
    refine Meets.weak (r0 := .tup [.agg [I 0, .nils], I 1]) ?_ fun ok w v h => zero_imp h
    refine meets_of (X := true) Ty.mixed Tryz.func15 (by kernel_rfl) rfl (by kernel_rfl) (by simp) ?_; rw [Tryz.ntmps15, Tryz.results15]
    simp only [zU,zX,zO,zA,zk,zp,isCallV,yab,yac,zB,yaf,zM,yag,zw,pureOp,apureO,astepO,killT,aev,cv,cvc,zZ,zR,cellsA,cellOk,argT,isC,bsD,zd,↓reduceIte,za,zg,zi,zu,zq,zV,zW,zf,zh,zo,zJ,zP,zl,zz,Value.oneCell',true_and,and_self,reduceCtorEq,Nat.reduceAdd,Nat.reduceEqDiff,zr,zy,zx,Ty.td24]
    refine call_meets (rvalid c1 t1 h1) (by simp only [aev,cv,cvc,yaa,zS,yai,zE,zH,zG,isC,bsD,zj] <;> rfl) ?_; simp only [zk,yaj,zp,zB,zM,yag,zw,pureOp,apureO,killT,aev,cv,cvc,yieldA,yal,yad,zY,yah,zT,zQ,isC,bsD,↓reduceIte,za,zb,zf,zF,zN,zI,zD]
    simp only [zU,zX,yak,yas,zO,seqQ_r,zA,zk,yaj,zp,isCallV,zB,yaf,zM,yaE,zw,slot.eq_1,yat,pureOp,apureO,astepO,killT,aev,cv,cvc,zZ,zR,storeA,cellsA,cellOk,setAll,fillA,placeT,placesA,yieldA,guardA_ft,yaB,pickA_t,yaa,yau,yax,zS,zE,zH,zG,notExit,yap,yav,yao,yaF,isC,bsD,zd,↓reduceIte,za,zb,zg,zi,zu,zq,zK,zL,zF,zN,zj,zh,zo,zJ,zP,zl,zz,yaq,Value.oneCell',true_and,and_self,ne_eq,not_false_eq_true,reduceCtorEq,Nat.reduceAdd,Nat.reduceEqDiff,zr,zy,zx,Ty.td3,Ty.td22,Ty.td24,hv]
  | true =>
    cases hu : validE c2 t2 with
    | false =>
      rw [if_neg (by simp)]
      refine Meets.weak (r0 := .tup [.agg [I 0, .nils], I 1]) ?_ fun ok w v h => zero_imp h
      refine meets_of (X := true) Ty.mixed Tryz.func15 (by kernel_rfl) rfl (by kernel_rfl) (by simp) ?_; rw [Tryz.ntmps15, Tryz.results15]
      simp only [zU,zX,zO,zA,zk,zp,isCallV,yab,yac,zB,yaf,zM,yag,zw,pureOp,apureO,astepO,killT,aev,cv,cvc,zZ,zR,cellsA,cellOk,argT,isC,bsD,zd,↓reduceIte,za,zg,zi,zu,zq,zV,zW,zf,zh,zo,zJ,zP,zl,zz,Value.oneCell',true_and,and_self,reduceCtorEq,Nat.reduceAdd,Nat.reduceEqDiff,zr,zy,zx,Ty.td24]
      refine call_meets (rvalid c1 t1 h1) (by simp only [aev,cv,cvc,yaa,zS,yai,zE,zH,zG,isC,bsD,zj] <;> rfl) ?_; simp only [zk,yaj,zp,zB,zM,yag,zw,pureOp,apureO,killT,aev,cv,cvc,yieldA,yal,yad,zY,yah,zT,zQ,isC,bsD,↓reduceIte,za,zb,zf,zF,zN,zI,zD]
      simp only [yaj,zp,isCallV,yab,yac,yaJ,zB,zM,zw,pureOp,apureO,aev,cv,cvc,zZ,zR,yieldA,yaA,isC,bsD,zd,↓reduceIte,za,zb,zg,zi,zu,zq,zf,zF,zN,zh,zo,zl,yam,true_and,Nat.reduceAdd,Nat.reduceEqDiff,zr,zy,zx,Ty.td24,hv]
      refine call_meets (rvalid c2 t2 h2) (by simp only [aev,cv,cvc,yaa,zS,yai,zE,zH,zG,isC,bsD,zj] <;> rfl) ?_; simp only [yak,zO,zA,zk,yaj,zp,yaJ,zB,zM,yag,zw,pureOp,apureO,killT,aev,cv,cvc,yieldA,yaA,pickA_f,yal,yad,zY,yah,zT,zQ,isC,bsD,↓reduceIte,za,zb,zf,zF,zN,zI,Nat.reduceEqDiff,zD]
      simp only [zU,zX,yas,zO,seqQ_r,zA,zk,zp,isCallV,zB,yaf,zM,yaE,zw,slot.eq_1,yat,pureOp,apureO,astepO,killT,aev,cv,cvc,zZ,zR,storeA,cellsA,cellOk,setAll,fillA,placeT,placesA,yaB,yaa,yau,yax,zS,zE,zH,zG,notExit,yap,yav,yao,yaF,isC,bsD,zd,↓reduceIte,za,zb,zg,zi,zu,zq,zK,zL,zj,zh,zo,zJ,zP,zl,zz,yaq,Value.oneCell',true_and,and_self,ne_eq,not_false_eq_true,reduceCtorEq,Nat.reduceAdd,Nat.reduceEqDiff,zr,zy,zx,Ty.td3,Ty.td22,Ty.td24,hu]
    | true =>
      rw [if_pos ⟨rfl, rfl⟩]
      obtain ⟨_, l1, s1, _⟩ := valid_parts hv
      obtain ⟨_, l2, s2, _⟩ := valid_parts hu
      refine meets_of (X := true) Ty.mixed Tryz.func15 (by kernel_rfl) rfl (by kernel_rfl) (by simp) ?_; rw [Tryz.ntmps15, Tryz.results15]
      simp only [zU,zX,zO,zA,zk,zp,isCallV,yab,yac,zB,yaf,zM,yag,zw,pureOp,apureO,astepO,killT,aev,cv,cvc,zZ,zR,cellsA,cellOk,argT,isC,bsD,zd,↓reduceIte,za,zg,zi,zu,zq,zV,zW,zf,zh,zo,zJ,zP,zl,zz,Value.oneCell',true_and,and_self,reduceCtorEq,Nat.reduceAdd,Nat.reduceEqDiff,zr,zy,zx,Ty.td24]
      refine call_meets (rvalid c1 t1 h1) (by simp only [aev,cv,cvc,yaa,zS,yai,zE,zH,zG,isC,bsD,zj] <;> rfl) ?_; simp only [zk,yaj,zp,zB,zM,yag,zw,pureOp,apureO,killT,aev,cv,cvc,yieldA,yal,yad,zY,yah,zT,zQ,isC,bsD,↓reduceIte,za,zb,zf,zF,zN,zI,zD]
      simp only [yaj,zp,isCallV,yab,yac,yaJ,zB,zM,zw,pureOp,apureO,aev,cv,cvc,zZ,zR,yieldA,yaA,isC,bsD,zd,↓reduceIte,za,zb,zg,zi,zu,zq,zf,zF,zN,zh,zo,zl,yam,true_and,Nat.reduceAdd,Nat.reduceEqDiff,zr,zy,zx,Ty.td24,hv]
      refine call_meets (rvalid c2 t2 h2) (by simp only [aev,cv,cvc,yaa,zS,yai,zE,zH,zG,isC,bsD,zj] <;> rfl) ?_; simp only [yak,zO,zA,zk,yaj,zp,yaJ,zB,zM,yag,zw,pureOp,apureO,killT,aev,cv,cvc,yieldA,yaA,pickA_f,yal,yad,zY,yah,zT,zQ,isC,bsD,↓reduceIte,za,zb,zf,zF,zN,zI,Nat.reduceEqDiff,zD]
      simp only [yaC,zU,zX,zO,zk,zp,isCallV,yab,yac,zB,zM,zw,pureOp,apureO,aev,cv,cvc,zZ,zR,yaI,isC,bsD,zd,↓reduceIte,za,zb,zg,zi,zu,zq,zf,zh,zo,zl,yam,true_and,Nat.reduceAdd,Nat.reduceEqDiff,zr,zy,zx,Ty.td24,hu]
      refine call_meets (rtimes c1 t1 c2 t2 (-1) s1 (by omega) (by omega)) (by simp only [aev,cv,cvc,yaa,zS,yai,zE,zH,zG,isC,bsD,zj] <;> rfl) ?_; simp only [zk,zp,isCallV,yab,yac,yag,zw,pureOp,killT,aev,cv,cvc,yal,yaD,yaH,yaz,yaw,yad,zY,yah,zT,zQ,isC,bsD,zd,↓reduceIte,zu,zq,zf,yae,yan,zI,and_true,zD]
      refine call_meets (rlimited (timesE (c1, t1) (c2, t2) (-1)).1 (timesE (c1, t1) (c2, t2) (-1)).2 (times_small (-1) (a := (c1, t1)) (b := (c2, t2)) h1 h2 (by simp only; omega))) (by simp only [aev,cv,cvc,yaa,zS,yai,zE,zH,zG,isC,bsD,zj] <;> rfl) ?_; simp only [yas,zO,zA,zk,zp,isCallV,zB,yaf,zM,yaE,yag,zw,yat,pureOp,apureO,astepO,killT,aev,cv,cvc,zZ,zR,storeA,cellsA,cellOk,setAll,yal,flat_tup,yaD,yaH,yaz,yaw,yad,zY,yah,zT,zQ,yaa,yax,zS,yai,zE,zH,zG,notExit,yap,yav,yao,yaF,isC,bsD,zd,↓reduceIte,za,zb,zg,zi,zf,zK,zL,zj,zh,zo,yae,zl,yan,zz,zI,true_and,and_true,and_self,Nat.reduceAdd,Nat.reduceEqDiff,zr,zD,zy,zx,Ty.td24]
def zeroE (c : Int) (ts : List Tm) : Bool := decide (c = 0) && ts.isEmpty
theorem zero_eqE (c : Int) (ts : List Tm) : eqE (c, ts) (0, []) = zeroE c ts := by
  unfold eqE zeroE
  cases ts <;> simp [eqT] <;> rfl
theorem zero_is {c : Int} {ts : List Tm} (h : zeroE c ts = true) : c = 0 ∧ ts = [] := by
  unfold zeroE at h
  simpa using h
def scaleR (l : Int × List Tm) (k : Int) : (Int × List Tm) × Int :=
  if validE l.1 l.2 = true then if fitsI k = true then limE (timesE (0, []) l k) else if zeroE l.1 l.2 = true then ((0, []), 0) else ((0, []), 3) else ((0, []), 1)
theorem v0 : validE 0 [] = true := rfl
theorem times_zero (k : Int) : timesE (0, []) (0, []) k = (0, []) := by
  unfold timesE
  rw [Int.mul_zero]
  rfl
theorem lim_zero : limE (0, []) = ((0, []), 0) := rfl
theorem clamp_fits {k : Int} (h : fitsI k = true) : clampI k = k := by
  have := L29.fits_b h
  unfold clampI
  omega
theorem scaleR_is (l : Int × List Tm) (k : Int) : scaleE l k = scaleR l k := by
  obtain ⟨c, ts⟩ := l
  unfold scaleE scaleR
  simp only [zero_eqE]
  cases hv : validE c ts with
  | false => rfl
  | true =>
    cases hf : fitsI k with
    | true =>
      rw [if_pos rfl, if_neg (by simp), if_pos rfl, if_pos rfl, clamp_fits hf, combine_is k v0 hv]
    | false =>
      cases hz : zeroE c ts with
      | false => simp
      | true =>
        obtain ⟨rfl, rfl⟩ := zero_is hz
        rw [if_pos rfl, if_neg (by simp), if_pos rfl, if_neg (by simp), if_pos rfl, combine_is _ v0 v0, times_zero, lim_zero]
theorem rscale (c : Int) (ts : List Tm) (k : Int) (h : small ts) : Meets Tryz.prog 17 [ln c ts, I k] (linR (scaleR (c, ts) k)) := by
  unfold scaleR
  simp only
  cases hv : validE c ts with
  | false =>
    rw [if_neg (by simp)]
    refine Meets.weak (r0 := .tup [.agg [I 0, .nils], I 1]) ?_ fun ok w v h => zero_imp h
    refine meets_of (X := true) Ty.mixed Tryz.func17 (by kernel_rfl) rfl (by kernel_rfl) (by simp) ?_; rw [Tryz.ntmps17, Tryz.results17]
    simp only [zU,zX,zO,zA,zk,zp,isCallV,yab,yac,zB,yaf,zM,yag,zw,pureOp,apureO,astepO,killT,aev,cv,cvc,zZ,zR,cellsA,cellOk,argT,isC,bsD,zd,↓reduceIte,za,zg,zi,zu,zq,zV,zW,zf,zh,zo,zJ,zP,zl,zz,Value.oneCell',true_and,and_self,Nat.reduceAdd,Nat.reduceEqDiff,zr,zy,zx,Ty.td24]
    refine call_meets (rvalid c ts h) (by simp only [aev,cv,cvc,yaa,zS,yai,zE,zH,zG,isC,bsD,zj] <;> rfl) ?_; simp only [yak,zO,zA,zk,zp,zB,zM,yag,zw,pureOp,apureO,killT,aev,cv,cvc,yal,yad,zY,yah,zT,zQ,isC,bsD,↓reduceIte,zf,zI,zD]
    simp only [zU,zX,yas,zO,seqQ_r,zA,zk,zp,isCallV,zB,yaf,zM,yaE,zw,slot.eq_1,yat,pureOp,apureO,astepO,killT,aev,cv,cvc,zZ,zR,storeA,cellsA,cellOk,setAll,fillA,placeT,placesA,yaB,yaa,yau,yax,zS,zE,zH,zG,notExit,yap,yav,yao,yaF,isC,bsD,zd,↓reduceIte,za,zb,zg,zi,zu,zq,zK,zL,zj,zh,zo,zJ,zP,zl,zz,yaq,Value.oneCell',true_and,and_self,ne_eq,not_false_eq_true,reduceCtorEq,Nat.reduceAdd,Nat.reduceEqDiff,zr,zy,zx,Ty.td3,Ty.td22,Ty.td24,hv]
  | true =>
    rw [if_pos rfl]
    obtain ⟨_, l1, s1, _⟩ := valid_parts hv
    cases hf : fitsI k with
    | true =>
      rw [if_pos rfl]
      refine meets_of (X := true) Ty.mixed Tryz.func17 (by kernel_rfl) rfl (by kernel_rfl) (by simp) ?_; rw [Tryz.ntmps17, Tryz.results17]
      simp only [zU,zX,zO,zA,zk,zp,isCallV,yab,yac,zB,yaf,zM,yag,zw,pureOp,apureO,astepO,killT,aev,cv,cvc,zZ,zR,cellsA,cellOk,argT,isC,bsD,zd,↓reduceIte,za,zg,zi,zu,zq,zV,zW,zf,zh,zo,zJ,zP,zl,zz,Value.oneCell',true_and,and_self,Nat.reduceAdd,Nat.reduceEqDiff,zr,zy,zx,Ty.td24]
      refine call_meets (rvalid c ts h) (by simp only [aev,cv,cvc,yaa,zS,yai,zE,zH,zG,isC,bsD,zj] <;> rfl) ?_; simp only [yak,zO,zA,zk,zp,zB,zM,yag,zw,pureOp,apureO,killT,aev,cv,cvc,yal,yad,zY,yah,zT,zQ,isC,bsD,↓reduceIte,zf,zI,zD]
      simp only [yaC,zU,zX,zO,zk,zp,isCallV,yab,yac,zB,zM,zw,pureOp,apureO,aev,cv,cvc,yaI,isC,bsD,zd,↓reduceIte,zu,zq,zf,yam,reduceCtorEq,Nat.reduceEqDiff,hv]
      refine call_meets (rsmall k) (by simp only [aev,cv,cvc,yaa,zE,zH,zG,isC,bsD] <;> rfl) ?_; simp only [yak,zO,zA,zk,zp,zB,zM,yag,zw,pureOp,apureO,killT,aev,cv,cvc,yal,yad,zT,zQ,isC,bsD,↓reduceIte,zf,zI,zD]
      simp only [yaC,zU,zX,zO,zk,zp,isCallV,yab,yac,zB,zM,zw,slot.eq_1,pureOp,apureO,aev,cv,cvc,zZ,zR,fillA,placeT,placesA,yaI,isC,bsD,zd,↓reduceIte,za,zg,zi,zu,zq,zf,zh,zo,zJ,zP,zl,zz,yam,Value.oneCell',true_and,and_self,ne_eq,not_false_eq_true,reduceCtorEq,Nat.reduceAdd,Nat.reduceEqDiff,zr,zy,zx,Ty.td3,Ty.td22,Ty.td24,hf]
      refine call_meets (rtimesN 0 c ts k (by omega)) (by simp only [aev,cv,cvc,yaa,yau,zS,yai,zE,zH,zG,isC,bsD,zj] <;> rfl) ?_; simp only [zk,zp,isCallV,yab,yac,yag,zw,pureOp,killT,aev,cv,cvc,yal,yaD,yaH,yaz,yaw,yad,ownsV_nils,zY,yah,zT,zQ,isC,bsD,zd,↓reduceIte,zu,zq,zf,yae,yan,zI,and_true,zD]
      refine call_meets (rlimited (timesE (0, []) (c, ts) k).1 (timesE (0, []) (c, ts) k).2 (times_small k (a := (0, [])) (b := (c, ts)) ⟨by simp, by simp⟩ h (by simp only [zi]; omega))) (by simp only [aev,cv,cvc,yaa,zS,yai,zE,zH,zG,isC,bsD,zj] <;> rfl) ?_; simp only [yas,zO,zA,zk,zp,isCallV,zB,yaf,zM,yaE,yag,zw,yat,pureOp,apureO,astepO,killT,aev,cv,cvc,zZ,zR,storeA,cellsA,cellOk,setAll,yal,flat_tup,yaD,yaH,yaz,yaw,yad,zY,yah,zT,zQ,yaa,yax,zS,yai,zE,zH,zG,notExit,yap,yav,yao,yaF,isC,bsD,zd,↓reduceIte,za,zb,zg,zi,zf,zK,zL,zj,zh,zo,yae,zl,yan,zz,zI,true_and,and_true,and_self,Nat.reduceAdd,Nat.reduceEqDiff,zr,zD,zy,zx,Ty.td24]
    | false =>
      rw [if_neg (by simp)]
      cases hz : zeroE c ts with
      | true =>
        obtain ⟨rfl, rfl⟩ := zero_is hz
        have ht := rtimesN 0 0 [] 0 (by simp)
        rw [times_zero] at ht
        have hl := rlimited 0 [] ⟨by simp, by simp⟩
        rw [lim_zero] at hl
        rw [if_pos rfl]
        refine meets_of (X := true) Ty.mixed Tryz.func17 (by kernel_rfl) rfl (by kernel_rfl) (by simp) ?_; rw [Tryz.ntmps17, Tryz.results17]
        simp only [zU,zX,zO,zA,zk,zp,isCallV,yab,yac,zB,yaf,zM,yag,zw,pureOp,apureO,astepO,killT,aev,cv,cvc,zZ,zR,cellsA,cellOk,argT,isC,bsD,zd,↓reduceIte,za,zg,zi,zu,zq,zV,zW,zf,zh,zo,zJ,zP,zl,zz,Value.oneCell',true_and,and_self,Nat.reduceAdd,Nat.reduceEqDiff,zr,zy,zx,Ty.td24]
        refine call_meets (rvalid 0 [] h) (by simp only [aev,cv,cvc,yaa,zS,yai,zE,zH,zG,isC,bsD,zq,zj] <;> rfl) ?_; simp only [yak,zO,zA,zk,zp,zB,zM,yag,zw,pureOp,apureO,killT,aev,cv,cvc,yal,yad,zY,yah,zT,zQ,isC,bsD,↓reduceIte,zf,zI,zD]
        simp only [yaC,zU,zX,zO,zk,zp,isCallV,yab,yac,zB,zM,zw,pureOp,apureO,aev,cv,cvc,yaI,isC,bsD,zd,↓reduceIte,zu,zq,zf,yam,reduceCtorEq,Nat.reduceEqDiff,hv]
        refine call_meets (rsmall k) (by simp only [aev,cv,cvc,yaa,zE,zH,zG,isC,bsD] <;> rfl) ?_; simp only [yak,zO,zA,zk,zp,zB,zM,yag,zw,pureOp,apureO,killT,aev,cv,cvc,yal,yad,zT,zQ,isC,bsD,↓reduceIte,zf,zI,zD]
        simp only [yaC,zU,zX,yak,zO,zA,zk,yaj,zp,isCallV,yab,yac,yaJ,zB,zM,zw,slot.eq_1,pureOp,apureO,aev,cv,cvc,binK,zZ,lenA,lenK,zR,fillA,placeT,placesA,yieldA,yaA,yaB,yaI,pickA_f,yaL,isC,bsD,zd,↓reduceIte,za,zb,zg,zi,zu,zq,zf,zF,zN,zh,zo,zJ,zP,zl,zz,yaq,Value.oneCell',true_and,and_self,ne_eq,not_false_eq_true,reduceCtorEq,Nat.reduceAdd,Nat.reduceEqDiff,zr,yar,zy,zx,Ty.td3,Ty.td22,Ty.td24,hf,bne_self_eq_false,zi,zq,show decide ((0 : Int) < ((0 : Nat) : Int)) = false from rfl]
        refine call_meets (ht) (by simp only [aev,cv,cvc,yaa,yau,zS,yai,zE,zH,zG,isC,bsD,zq,zj] <;> rfl) ?_; simp only [zk,zp,isCallV,yab,yac,yag,zw,pureOp,killT,aev,cv,cvc,yal,yaD,yaH,yaz,yaw,yad,ownsV_nils,zY,yah,zT,zQ,isC,bsD,zd,↓reduceIte,zu,zq,zf,yae,yan,zI,and_true,zD]
        refine call_meets (hl) (by simp only [aev,cv,cvc,yaa,zS,yai,zE,zH,zG,isC,bsD,zq,zj] <;> rfl) ?_; simp only [yas,zO,zA,zk,zp,isCallV,zB,yaf,zM,yaE,yag,zw,yat,pureOp,apureO,astepO,killT,aev,cv,cvc,zZ,zR,storeA,cellsA,cellOk,setAll,yal,flat_tup,yaD,yaH,yaz,yaw,yad,zY,yah,zT,zQ,yaa,yax,zS,yai,zE,zH,zG,notExit,yap,yav,yao,yaF,isC,bsD,zd,↓reduceIte,za,zb,zg,zi,zq,zf,zK,zL,zj,zh,zo,yae,zl,yan,zz,zI,true_and,and_true,and_self,Nat.reduceAdd,Nat.reduceEqDiff,zr,zD,zy,zx,Ty.td24]
        rfl
      | false =>
        rw [if_neg (by simp)]
        refine Meets.weak (r0 := .tup [.agg [I 0, .nils], I 3]) ?_ fun ok w v h => zero_imp h
        refine meets_of (X := true) Ty.mixed Tryz.func17 (by kernel_rfl) rfl (by kernel_rfl) (by simp) ?_; rw [Tryz.ntmps17, Tryz.results17]
        simp only [zU,zX,zO,zA,zk,zp,isCallV,yab,yac,zB,yaf,zM,yag,zw,pureOp,apureO,astepO,killT,aev,cv,cvc,zZ,zR,cellsA,cellOk,argT,isC,bsD,zd,↓reduceIte,za,zg,zi,zu,zq,zV,zW,zf,zh,zo,zJ,zP,zl,zz,Value.oneCell',true_and,and_self,Nat.reduceAdd,Nat.reduceEqDiff,zr,zy,zx,Ty.td24]
        refine call_meets (rvalid c ts h) (by simp only [aev,cv,cvc,yaa,zS,yai,zE,zH,zG,isC,bsD,zj] <;> rfl) ?_; simp only [yak,zO,zA,zk,zp,zB,zM,yag,zw,pureOp,apureO,killT,aev,cv,cvc,yal,yad,zY,yah,zT,zQ,isC,bsD,↓reduceIte,zf,zI,zD]
        simp only [yaC,zU,zX,zO,zk,zp,isCallV,yab,yac,zB,zM,zw,pureOp,apureO,aev,cv,cvc,yaI,isC,bsD,zd,↓reduceIte,zu,zq,zf,yam,reduceCtorEq,Nat.reduceEqDiff,hv]
        refine call_meets (rsmall k) (by simp only [aev,cv,cvc,yaa,zE,zH,zG,isC,bsD] <;> rfl) ?_; simp only [yak,zO,zA,zk,zp,zB,zM,yag,zw,pureOp,apureO,killT,aev,cv,cvc,yal,yad,zT,zQ,isC,bsD,↓reduceIte,zf,zI,zD]
        simp only [zU,zX,zk,yaj,zp,zB,zM,zw,pureOp,apureO,aev,cv,cvc,binK,zZ,zR,yieldA,yaB,isC,bsD,zd,↓reduceIte,za,zb,zg,zi,zF,zN,zl,yaq,true_and,ne_eq,not_false_eq_true,reduceCtorEq,Nat.reduceAdd,Nat.reduceEqDiff,zr,Ty.td3,Ty.td24,hf]
        by_cases hc : c = 0
        · have hts : 0 < ts.length := by
            cases ts with
            | nil => subst hc; simp [zeroE] at hz
            | cons a r => simp
          simp only [zU,zX,yak,yas,zO,seqQ_r,zA,zk,yaj,zp,isCallV,yaJ,zB,yaf,zM,yaE,zw,slot.eq_1,yat,pureOp,apureO,astepO,killT,aev,cv,cvc,binK,zZ,lenA,lenK,zR,storeA,cellsA,cellOk,setAll,fillA,placeT,placesA,yieldA,yaA,yaB,pickA_f,yaa,yau,yax,zS,zE,zH,zG,notExit,yap,yav,yao,yaF,yaL,isC,bsD,zd,↓reduceIte,za,zb,zg,zi,zu,zq,zK,zL,zF,zN,zj,zh,zo,zJ,zP,yae,zl,zz,Value.oneCell',true_and,and_true,and_self,ne_eq,not_false_eq_true,reduceCtorEq,Nat.reduceAdd,Nat.reduceEqDiff,zr,yar,zy,zx,Ty.td3,Ty.td22,Ty.td24,show (c != 0) = false by simpa using hc,yay,show decide ((0 : Int) < (ts.length : Int)) = true from decide_eq_true (by omega)]
        · simp only [zU,zX,yak,yas,zO,seqQ_r,zA,zk,yaj,zp,isCallV,zB,yaf,zM,yaE,zw,slot.eq_1,yat,pureOp,apureO,astepO,killT,aev,cv,cvc,zZ,zR,storeA,cellsA,cellOk,setAll,fillA,placeT,placesA,yieldA,guardA_ft,yaB,pickA_t,yaa,yau,yax,zS,zE,zH,zG,notExit,yap,yav,yao,yaF,isC,bsD,zd,↓reduceIte,za,zb,zg,zi,zu,zq,zK,zL,zF,zN,zj,zh,zo,zJ,zP,zl,zz,Value.oneCell',true_and,and_self,ne_eq,not_false_eq_true,reduceCtorEq,Nat.reduceAdd,Nat.reduceEqDiff,zr,zy,zx,Ty.td3,Ty.td22,Ty.td24,show (c != 0) = true by simpa using hc]

end Go.Proofs.YtjgaebomcdkohaaGreatDoor.L27
