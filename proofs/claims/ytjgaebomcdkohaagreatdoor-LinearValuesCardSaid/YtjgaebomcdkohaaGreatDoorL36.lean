/- The law on values of linear expressions. -/
import Derived.Test.YtjgaebomcdkohaaGreatDoorL33
import Derived.Test.YtjgaebomcdkohaaGreatDoorL35
namespace Go.Proofs.YtjgaebomcdkohaaGreatDoor.L36
open Go Go.Proofs.YtjgaebomcdkohaaGreatDoor.Eng Go.Proofs.YtjgaebomcdkohaaGreatDoor Go.RowKit Go.Proofs.YtjgaebomcdkohaaGreatDoor.L1 Go.Proofs.YtjgaebomcdkohaaGreatDoor.L2 Go.Proofs.YtjgaebomcdkohaaGreatDoor.L3 Go.Proofs.YtjgaebomcdkohaaGreatDoor.L6 Go.Proofs.YtjgaebomcdkohaaGreatDoor.L12 Go.Proofs.YtjgaebomcdkohaaGreatDoor.L13 Go.Proofs.YtjgaebomcdkohaaGreatDoor.L15 Go.Proofs.YtjgaebomcdkohaaGreatDoor.L16 Go.Proofs.YtjgaebomcdkohaaGreatDoor.L17 Go.Proofs.YtjgaebomcdkohaaGreatDoor.L18 Go.Proofs.YtjgaebomcdkohaaGreatDoor.L19 Go.Proofs.YtjgaebomcdkohaaGreatDoor.L20 Go.Proofs.YtjgaebomcdkohaaGreatDoor.L22 Go.Proofs.YtjgaebomcdkohaaGreatDoor.L23 Go.Proofs.YtjgaebomcdkohaaGreatDoor.L27 Go.Proofs.YtjgaebomcdkohaaGreatDoor.L28 Go.Proofs.YtjgaebomcdkohaaGreatDoor.L31 Go.Proofs.YtjgaebomcdkohaaGreatDoor.L34 Go.Proofs.YtjgaebomcdkohaaGreatDoor.L35
open _root_.List renaming getElem?_cons_zero → za, getElem?_cons_succ → zb, getElem?_toArray → zd, append_nil → zf, length_cons → zh, length_nil → zj, take_succ_cons → zo, map_nil → zu, drop_zero → zA, map_cons → zB, nil_append → zE, take_nil → zF, cons_append → zK, isEmpty_nil → zM, set_cons_zero → zW, set_cons_succ → zX, length_map → zZ, all_cons → yag, all_nil → yaj, isEmpty_cons → yau, range_succ → yay, range_zero → yaz, getElem?_nil → yaB, not_mem_nil → yaC, mem_cons → yaJ, zipIdx_cons → yaK, zipIdx_nil → yaS
open _root_.Bool renaming and_self → zg, false_eq_true → zi, true_and → zk, or_true → zN, and_true → zR, or_false → yam, and_false → yaw, not_true → yaX
open _root_.Option renaming bind_some → zl, map_some → zw, isSome_some → yas, getD_some → yaD, map_none → yaR
open _root_.Go.Proofs.YtjgaebomcdkohaaGreatDoor.Eng renaming awpOps_one → zp, awpOps_nil → zr, slot_is → zx, awpOp_is → zy, putK_is → zD, awp_reg → zG, awp_seq → zH, awpOps_if → zI, seqQ_n → zJ, put_s → zL, consO_some → zO, ownsL_cons → zP, ownsL_nil → zQ, loadA_p → zS, awp_cond → zT, toDL_cons → zU, ownsV_agg → zV, elO_s → zY, flatL_cons → yaa, callW_is → yab, callV_is → yac, toDL_nil → yad, ownsV_sl → yae, flatL_nil → yaf, toD_agg → yah, ownsV_c → yai, flat_tup → yak, toD_c → yal, awp_skip → yan, upd_s → yao, flat_c → yap, toD_sl → yaq, guardA_ff → yar, pickA_f → yat, condA_f → yav, awpO_is → yax, pickA_t → yaA, updK_is → yaE, resA_nil → yaF, resA_tmp → yaG, flat_agg → yaH, ownsV_own → yaI, awp_ret → yaL, retA_is → yaM, condA_t → yaN, flat_sl → yaO, guardA_tt → yaP, guardA_no → yaQ, toD_own → yaT, guardA_ft → yaU, oneA_1 → yaV, guardA_tf → yaW, killL_cons → yaY, ownsV_nils → yaZ
open _root_.Nat renaming le_refl → zq, zero_add → zz
set_option linter.unusedSimpArgs false
set_option linter.unusedVariables false
set_option linter.unusedSectionVars false
set_option maxRecDepth 100000

abbrev vV (i : Nat) : AV := if i = 0 then .nils else .own 4 2 i
abbrev hV (c1 : Int) (t1 : List Tm) (c2 : Int) (t2 : List Tm) (i : Nat) : Heap := [some (.var 24 [I c1, tms t1]), some (.var 24 [I c2, tms t2]), some (.row 42 2 ((t1 ++ t2).map tmV))] ++ if i = 0 then [] else [none, some (.row 44 2 ((vsE ((t1 ++ t2).take i) 0).map tmV))]
theorem take_vs {l : List Tm} {i : Nat} {t : Tm} (ht : l[i]? = some t) : vsE (l.take (i + 1)) 0 = vsE (l.take i) 0 ++ [(t.1, 7 * (i : Int) - 20)] := by
  obtain ⟨h1, rfl⟩ := List.getElem?_eq_some_iff.1 ht
  rw [← List.take_append_getElem h1, vsE_app, List.length_take, Nat.min_eq_left (by omega), Nat.zero_add]
theorem evalN {c : Int} {ts : List Tm} (h : small ts) : Meets Tryz.prog 23 [ln c ts, .nils] (.tup [I (evalE c ts []).1, I (evalE c ts []).2]) :=
  of_args (eval c ts [] h (by simp)) fun ok w l h => cons_imp (fun _ h => h) (fun _ h => cons_imp (fun _ h => nil_imp h) (fun _ h => h) h) h
theorem substN (c1 : Int) (t1 : List Tm) (v : ByteArray) (c2 : Int) (t2 : List Tm) (l1 : t1.length ≤ 100) (m1 : mid t1) (l2 : t2.length ≤ 100) (m2 : mid t2) : Meets Tryz.prog 21 [ln c1 t1, .sl false 7 [[I 1, S v, I c2, tms t2, S ⟨#[]⟩, .nils, S ⟨#[]⟩]]] (linR (substR c1 t1 [⟨1, v, c2, t2, ⟨#[]⟩, [], ⟨#[]⟩⟩])) := by
  have h := subst ksP c1 t1 [⟨1, v, c2, t2, ⟨#[]⟩, [], ⟨#[]⟩⟩] ⟨by simp, fun b hb => by simp at hb; subst hb; exact ⟨by simp only; omega, m2.2⟩⟩ l1 m1.2
  rw [L31.subst_same] at h
  exact of_args h fun ok w l h => cons_imp (fun _ h => h) (fun _ h => cons_imp (fun _ h => bd_imp h) (fun _ h => h) h) h

theorem call_drop {P : Program} {σ : AS} {dst : Option Tmp} {g : FuncId} {xs ds : List AV} {res : AV} {K : AS → Prop} (hm : Meets P g ds res) (hds : toDL σ.h xs = some ds) (hf : (flat res || (ownsL xs).isEmpty) = true) (t : List (Nat × AV)) (hw : Weak (σ.upd dst res [] [] σ.h).t t) (hK : K ⟨σ.n, t, σ.h⟩) : CallS P σ dst g xs K := by
  refine call_weak (call_meets hm hds ?_)
  rw [if_pos hf]
  exact ⟨⟨σ.n, t, σ.h⟩, Or.inl hw, by cases dst <;> rfl, .inl (by cases dst <;> rfl), hK⟩
theorem sub_mid (c : Int) (ts : List Tm) (bs : List Bd) : mid (substR c ts bs).1.2 := by
  unfold substR
  split
  · split
    · exact mid_nil
    · exact lim_mid _
  · exact mid_nil

set_option maxHeartbeats 4000000 in
theorem law (c1 : Int) (t1 : List Tm) (h1 : t1.length ≤ maxLen) (c2 : Int) (t2 : List Tm) (h2 : t2.length ≤ maxLen) (k : Int) : Meets Tryz.prog 5 [ln c1 t1, ln c2 t2, I k] (B true) := by
  unfold maxLen at h1 h2
  refine meets_of (X := true) Ty.mixed Tryz.func5 (by kernel_rfl) rfl (by kernel_rfl) (by simp) ?_; rw [Tryz.ntmps5, Tryz.results5]
  simp only [zG,zH,zJ,zr,zp,zy,isCallV,yab,yac,zD,yaE,zL,yao,zx,pureOp,apureO,astepO,killT,aev,cv,cvc,cellsA,cellOk,argT,isC,bsD,zi,↓reduceIte,zh,zj,zu,zK,zE,zf,zk,true_and,reduceCtorEq,Nat.reduceAdd,Nat.reduceEqDiff,zz]
  refine call_meets (awake) (by simp only [aev,cv,cvc,yad,isC,bsD] <;> rfl) ?_; simp only [yan,zG,zH,zT,zJ,zr,zp,zy,isCallV,yab,yac,zD,zL,yao,zx,pureOp,apureO,killT,aev,cv,cvc,zY,zS,yav,yap,zQ,isC,bsD,zi,↓reduceIte,za,zb,zh,zj,zB,zu,zf,zo,zA,zk,zN,yaX,true_and,Nat.reduceAdd,Nat.reduceEqDiff,zz,zM,zq,zF,Ty.td24]
  refine call_meets (few_ c1 t1 c2 t2 (by omega) (by omega)) (by simp only [aev,cv,cvc,yal,yah,yaq,zO,yad,zU,isC,bsD,zw] <;> rfl) ?_; simp only [zp,zI,zy,zD,zL,yao,zx,pureOp,apureO,killT,aev,cv,cvc,yieldA,yap,yai,zV,yae,zQ,zP,isC,bsD,↓reduceIte,za,zb,zf,zd,zl,zN,zM]
  cases hf : fewE t1 && fewE t2 with
  | false => simp only [zG,zH,zT,yaL,zJ,seqQ_r,zr,zp,zI,zy,zD,zL,zx,yaM,pureOp,apureO,aev,cv,cvc,yieldA,yaU,yaN,yaA,yal,notExit,yaF,yaG,yaV,isC,bsD,↓reduceIte,za,zb,zd,zl,zg,Bool.not_false,and_self,Nat.reduceEqDiff,hf]
  | true =>
  simp only [zI,zy,isCallV,yab,yac,yax,zD,zL,zx,pureOp,apureO,aev,cv,cvc,zY,zS,yieldA,yar,isC,bsD,zi,↓reduceIte,za,zb,zh,zj,zB,zu,zf,zd,zl,zo,zA,zk,yaX,true_and,Nat.reduceAdd,Nat.reduceEqDiff,zz,zq,zF,Ty.td24,hf]
  rw [Bool.and_eq_true] at hf
  refine call_meets (rvalid c1 t1 (small14 hf.1)) (by simp only [aev,cv,cvc,yal,yah,yaq,zO,yad,zU,isC,bsD,zw] <;> rfl) ?_; simp only [zp,zI,zy,yax,zD,zL,yao,zx,pureOp,apureO,killT,aev,cv,cvc,yieldA,yar,yat,yap,yai,zV,yae,zQ,zP,isC,bsD,↓reduceIte,za,zb,zf,zd,zl,zN,Nat.reduceEqDiff,zM]
  cases va : validE c1 t1 with
  | false => simp only [zG,zH,zT,yaL,zJ,seqQ_r,zr,zp,zI,zy,zD,zL,zx,yaM,pureOp,apureO,aev,cv,cvc,yieldA,yaU,yaN,yaA,yal,notExit,yaF,yaG,yaV,isC,bsD,↓reduceIte,za,zb,zd,zl,zg,Bool.not_false,and_self,Nat.reduceEqDiff,va]
  | true =>
  simp only [zI,zy,isCallV,yab,yac,yax,zD,zL,zx,pureOp,apureO,aev,cv,cvc,zY,zS,yieldA,yar,isC,bsD,zi,↓reduceIte,za,zb,zh,zj,zB,zu,zf,zd,zl,zo,zA,zk,yaX,true_and,Nat.reduceAdd,Nat.reduceEqDiff,zz,zq,zF,Ty.td24,va]
  refine call_meets (rvalid c2 t2 (small14 hf.2)) (by simp only [aev,cv,cvc,yal,yah,yaq,zO,yad,zU,isC,bsD,zw] <;> rfl) ?_; simp only [zT,zJ,zr,zp,zI,zy,yax,zD,zL,yao,zx,pureOp,apureO,killT,aev,cv,cvc,yieldA,yar,yat,yap,yai,zV,yae,zQ,zP,isC,bsD,↓reduceIte,za,zb,zf,zd,zl,zN,Nat.reduceEqDiff,zM]
  cases vb : validE c2 t2 with
  | false => simp only [zG,zH,yaL,zJ,seqQ_r,zr,zp,zy,zD,zL,zx,yaM,pureOp,apureO,aev,cv,cvc,yaN,yal,notExit,yaF,yaG,yaV,isC,bsD,↓reduceIte,zg,Bool.not_false,and_self,vb]
  | true =>
  simp only [awp_regX,yan,zG,zH,zJ,zr,zp,zy,zD,zL,pureOp,apureO,aev,cv,cvc,yav,isC,bsD,↓reduceIte,yaX,vb]
  have m1 := valid_mid va
  have m2 := valid_mid vb
  have n1 := few_len hf.1
  have n2 := few_len hf.2
  have hal : (t1 ++ t2).length = t1.length + t2.length := List.length_append
  have htk1 : List.take t1.length (List.map tmV t1) = List.map tmV t1 := List.take_of_length_le (by simp)
  refine drawS_wild ?_; simp (config := {maxSteps := 2000000}) only [zG,zH,awp_block,awp_loop,zJ,zr,zp,zy,isCallV,zD,zL,zx,slot.eq_1,pureOp,apureO,astepO,bsF2_is,bsF1_is,bsEnd_is,appA_sl,appV,killT,killB,killH,aev,cv,cvc,zY,zS,fillA,elemsA,elemsN,rowE,chunk,dropL,isDL_nil,zQ,yad,killV_c,killV_nils,killV_junk,killV_agg,killV_sl,killV_own,killV_ptr,killL_nil,yaY,bsF0_s,isC,bsD,zi,↓reduceIte,za,zb,zh,zj,zB,zu,zK,zE,zf,zW,zX,zw,yaR,List.drop_succ_cons,zA,yag,yaj,zk,zg,zN,Bool.true_or,Bool.false_or,yam,Value.oneCell',true_and,and_self,ne_eq,not_false_eq_true,reduceCtorEq,Nat.reduceAdd,Nat.reduceMul,Nat.reduceLT,Nat.reduceLeDiff,Nat.reduceEqDiff,zz,yaJ,yaC,or_false,false_or,yay,yaz,decide_true,yaK,yaS,zq,List.drop_nil,zF,List.any_cons,List.any_nil,List.zip_nil_right,yaB,true_or,awpW_nil,awpW_one,wRun_is,wOp_is,keepK_is,stepK_is,contW_is,nextW_s,confs_nil,confs_cons,conf_is,meet_nil,meet_cons,opV_assign,opV_load,opV_fieldAddr,opV_buildSlice,opV_builtin,tch_assign,tch_load,tch_fieldAddr,tch_buildSlice,tch_app,rd_assign,rd_load,rd_fieldAddr,rd_buildSlice,rd_app,namesV_c,namesV_sl,namesV_ptr,namesV_own,namesV_agg,namesL_nil,namesL_cons,namesH_nil,namesH_cons,namesB_var,namesB_row,namesB_none,killO_s,allLt_is,maskH_is,mergeH_is,setH_is,newL_is,refsT,refsH,refsV,refsL,Bool.or_self,true_or,Nat.reduceBEq,yaB,List.zip_nil_right,Ty.td22,Ty.td24,Ty.td42]
  refine ⟨by rw [List.length_map]; omega, by rw [List.length_map]; omega, by rw [List.length_map, List.length_map]; omega, by rw [List.length_map, List.length_map]; omega, by kernel_rfl, ?_⟩
  refine loop_g (fun i : Nat => i ≤ (t1 ++ t2).length) (fun i => ⟨222, [(9, I i), (8, .own 2 2 (t1 ++ t2).length), (7, vV i), (4, .ptr 1 0), (3, .ptr 0 0), (2, I k)], hV c1 t1 c2 t2 i⟩) (fun i => (t1 ++ t2).length - i) 0 (Nat.zero_le _) (by simp only [zx,aev,cv,cvc,Weak,isC,bsD,↓reduceIte,zR,zg,and_true,and_self,reduceCtorEq,Nat.reduceEqDiff]; simp) rfl (.inl (by simp [hV, htk1])) ?_
  rintro i hi K hK
  by_cases hlt : i < (t1 ++ t2).length
  · have ht : (t1 ++ t2)[i]? = some (t1 ++ t2)[i] := List.getElem?_eq_getElem hlt
    generalize (t1 ++ t2)[i] = t at ht
    have htv := take_vs ht
    have w1 : IntKind.i64.wrap (7 * (i : Int)) = 7 * (i : Int) := wrap_in (by omega) (by omega)
    have w2 : IntKind.i64.wrap (7 * (i : Int) - 20) = 7 * (i : Int) - 20 := wrap_in (by omega) (by omega)
    cases i with
    | zero =>
      simp only [hV,vV,if_true,zf]
      simp only [yan,zG,zH,zT,awp_block,zJ,loopQ_n,blkQ_n,zr,zp,zy,isCallV,zD,yaE,zL,yao,zx,slot.eq_1,pureOp,apureO,astepO,bsEnd_is,appA_own,appV,killT,aev,cv,cvc,binK,zY,lenA,lenK,loadA_r,cellsA,cellOk,setAll,fillA,placeT,placesA,yaN,elemsA,elemsN,chunk,isD_c,isDL_nil,isDL_cons,mlenA_own,isC,bsD,Int.natCast_nonneg,zi,↓reduceIte,za,zb,zh,zj,zB,zu,zK,zE,zW,zX,zw,yaD,zo,zA,yag,yaj,zR,zk,zg,Value.oneCell',true_and,and_true,and_self,ne_eq,not_false_eq_true,reduceCtorEq,Nat.reduceAdd,Nat.reduceMul,Nat.reduceLT,Nat.reduceLeDiff,Nat.reduceEqDiff,Nat.reduceMod,Nat.reduceDiv,zz,Int.toNat_natCast,yay,yaz,yas,zq,zF,Ty.td3,Ty.td9,Ty.td22,Ty.td33,Ty.td42,Ty.td44,show decide (((0 : Nat) : Int) < ((t1 ++ t2).length : Int)) = true from decide_eq_true (by omega),List.getElem?_map,zZ,ht,w1,w2]
      refine ⟨by omega, ?_⟩
      rw [wrap_in (x := ((0 : Nat) : Int) + 1) (by omega) (by omega)]
      refine hK 1 _ (by omega) (by omega) ?_ rfl (.weak (by simp [hV]) (by simp [WeakH, hV, htv, vsE]) rfl rfl)
      simp only [zx,aev,cv,cvc,Weak,isC,bsD,↓reduceIte,zR,zk,zg,true_and,and_true,and_self,Nat.reduceEqDiff]
      simp [vV]
    | succ i =>
      simp only [hV,vV,Nat.add_one_ne_zero,if_false]
      simp only [yan,zG,zH,zT,awp_block,zJ,zr,zp,zy,isCallV,zD,zL,zx,slot.eq_1,pureOp,apureO,astepO,aev,cv,cvc,binK,zY,lenA,lenK,loadA_r,cellsA,cellOk,setAll,fillA,placeT,placesA,yaN,mlenA_own,isC,bsD,Int.natCast_nonneg,zi,↓reduceIte,za,zb,zh,zj,zB,zu,zK,zE,zw,yaD,yag,yaj,zR,zk,zg,Value.oneCell',true_and,and_true,and_self,ne_eq,not_false_eq_true,reduceCtorEq,Nat.reduceAdd,Nat.reduceMul,Nat.reduceLT,Nat.reduceLeDiff,Nat.reduceEqDiff,Nat.reduceMod,zz,Int.toNat_natCast,yay,yaz,yas,zq,Ty.td3,Ty.td9,Ty.td22,Ty.td33,Ty.td42,Ty.td44,show decide (((i + 1 : Nat) : Int) < ((t1 ++ t2).length : Int)) = true from decide_eq_true (by omega),List.getElem?_map,zZ,ht]
      refine ⟨by omega, by omega, ?_⟩
      have lenv : (vsE ((t1 ++ t2).take (i + 1)) 0).length = i + 1 := by rw [vsE_len, List.length_take]; omega
      have htk : List.take (i + 1) (List.map tmV (vsE ((t1 ++ t2).take (i + 1)) 0)) = List.map tmV (vsE ((t1 ++ t2).take (i + 1)) 0) := List.take_of_length_le (by rw [List.length_map, lenv]; exact Nat.le_refl _)
      rw [Nat.mul_div_cancel (i + 1) (by decide), ht]
      simp only [zG,zJ,loopQ_n,blkQ_n,zr,zp,zy,isCallV,zD,yaE,zL,yao,zx,slot.eq_1,pureOp,apureO,astepO,bsEnd_is,appA_own,appV,killT,killB,killH,aev,cv,cvc,binK,zY,cellsA,cellOk,setAll,fillA,placeT,placesA,elemsA,elemsN,rowE,chunk,isD_c,isDL_nil,isDL_cons,killV_c,killV_agg,killV_sl,killV_own,killV_ptr,killV_rp,killL_nil,yaY,isC,bsD,zi,↓reduceIte,za,zb,zh,zj,zB,zu,zK,zE,zW,zX,zw,yaR,yaD,zo,zA,yag,yaj,zR,zk,zg,yam,Value.oneCell',true_and,and_true,and_self,ne_eq,not_false_eq_true,reduceCtorEq,Nat.reduceAdd,Nat.reduceMul,Nat.reduceLT,Nat.reduceLeDiff,Nat.reduceEqDiff,Nat.reduceMod,zz,yaJ,yaC,or_false,yay,yaz,zq,zF,yaB,Ty.td3,Ty.td9,Ty.td33,Ty.td44,w1,w2,zZ,lenv,htk,zq]
      repeat refine ⟨by omega, ?_⟩
      rw [wrap_in (x := ((i + 1 : Nat) : Int) + 1) (by omega) (by omega)]
      refine hK (i + 1 + 1) _ (by omega) (by omega) ?_ rfl (.trim (by simp [hV, htv]) rfl rfl)
      simp only [zx,aev,cv,cvc,Weak,isC,bsD,↓reduceIte,zR,zk,zg,true_and,and_true,and_self,Nat.reduceEqDiff]
      simp [vV]
  · have hia : i = (t1 ++ t2).length := by omega
    have a1 := addP' (c1, t1) (c2, t2) m1 m2
    have a2 := subP' (c1, t1) (c2, t2) m1 m2
    have a3 := scaleP' (c1, t1) k m1
    have k1 := addR_mid (c1, t1) (c2, t2) 1
    have k2 := addR_mid (c1, t1) (c2, t2) (-1)
    have k3 := scaleR_mid (c1, t1) k
    cases i with
    | zero =>
      obtain ⟨rfl, rfl⟩ : t1 = [] ∧ t2 = [] := ⟨List.length_eq_zero_iff.1 (by omega), List.length_eq_zero_iff.1 (by omega)⟩
      simp only [hV,vV,if_true,zf]
      have hev : ∀ {c : Int} {ts : List Tm}, small ts → Meets Tryz.prog 23 [ln c ts, .nils] (.tup [I (evalE c ts []).1, I (evalE c ts []).2]) := evalN
      obtain ⟨vs, hvs⟩ : ∃ vs : List Tm, vs = [] := ⟨_, rfl⟩
      rw [← hvs] at hev
      have has1 : ∀ u ∈ ([] : List Tm), L30.has vs u.1 := fun u hu => by cases hu
      have has2 := has1
      obtain ⟨x, hx, wx, cx⟩ := L30.evalE_V (vs := vs) (l := (c1, [])) va has1
      obtain ⟨y, hy, wy, cy⟩ := L30.evalE_V (vs := vs) (l := (c2, [])) vb has2
      simp only at hx hy
      have p1 := hev (c := c1) (small14 hf.1)
      have p2 := hev (c := c2) (small14 hf.2)
      rw [hx] at p1
      rw [hy] at p2
      have s1 := hev (c := (addR (c1, []) (c2, []) 1).1.1) k1.s
      have s2 := hev (c := (addR (c1, []) (c2, []) (-1)).1.1) k2.s
      have s3 := hev (c := (scaleR (c1, []) k).1.1) k3.s
      have e1 := eval_add (vs := vs) (a := (c1, [])) (b := (c2, [])) va vb has1 has2 hx hy
      have e2 := eval_sub (vs := vs) (a := (c1, [])) (b := (c2, [])) va vb has1 has2 hx hy
      have e3 := eval_scale (vs := vs) (a := (c1, [])) (k := k) va has1 hx
      generalize addR (c1, []) (c2, []) 1 = r1 at *
      generalize addR (c1, []) (c2, []) (-1) = r2 at *
      generalize scaleR (c1, []) k = r3 at *
      obtain ⟨⟨r1c, r1t⟩, g1⟩ := r1
      obtain ⟨⟨r2c, r2t⟩, g2⟩ := r2
      obtain ⟨⟨r3c, r3t⟩, g3⟩ := r3
      simp only at a1 a2 a3 s1 s2 s3 e1 e2 e3
      generalize evalE r1c r1t vs = q1 at *
      generalize evalE r2c r2t vs = q2 at *
      generalize evalE r3c r3t vs = q3 at *
      obtain ⟨z1, f1⟩ := q1
      obtain ⟨z2, f2⟩ := q2
      obtain ⟨z3, f3⟩ := q3
      simp only at s1 s2 s3
      simp only [zG,zH,zT,awp_exit,zJ,seqQ_e,loopQ_e,blkQ_e,zr,zp,zy,isCallV,yab,yac,zD,zL,zx,pureOp,apureO,aev,cv,cvc,binK,zY,lenA,lenK,zS,yav,mlenA_own,isC,bsD,zi,↓reduceIte,za,zh,zj,zB,zu,zf,zo,zA,zk,true_and,Nat.reduceAdd,Nat.reduceEqDiff,zz,yas,zq,zF,Ty.td22,Ty.td24,zf,zj,show decide (((0 : Nat) : Int) < ((0 : Nat) : Int)) = false from rfl]
      refine call_meets (p1) (by simp only [aev,cv,cvc,yal,toD_nils,yah,yaq,zO,yad,zU,isC,bsD,zu,zw] <;> rfl) ?_; simp only [zG,zH,zJ,zr,zp,zy,isCallV,yab,yac,zD,zL,yao,zx,pureOp,apureO,killT,aev,cv,cvc,zY,zS,yap,yak,yaf,yaa,yai,yaZ,zV,yae,zQ,zP,isC,bsD,zi,↓reduceIte,za,zb,zh,zj,zB,zu,zf,zo,zA,zk,zg,zN,true_and,and_self,Nat.reduceAdd,Nat.reduceEqDiff,zz,zM,zq,zF,Ty.td24]
      refine call_meets (p2) (by simp only [aev,cv,cvc,yal,toD_nils,yah,yaq,zO,yad,zU,isC,bsD,zu,zw] <;> rfl) ?_; simp only [yan,zG,zH,zT,zJ,zr,zp,zI,zy,isCallV,yab,yac,yax,zD,zL,yao,zx,pureOp,apureO,killT,aev,cv,cvc,binK,zY,zS,yieldA,yar,yav,yat,yap,yak,yaf,yaa,yai,yaZ,zV,yae,zQ,zP,isC,bsD,zi,↓reduceIte,za,zb,zh,zj,zB,zu,zf,zd,zl,zo,zA,zk,zg,zN,true_and,and_self,Nat.reduceAdd,Nat.reduceEqDiff,zz,zM,zq,zF,Ty.td24,bne_self_eq_false]
      refine call_meets (a1) (by simp only [aev,cv,cvc,yal,yah,yaq,zO,yad,zU,isC,bsD,zu,zw] <;> rfl) ?_; simp only [zG,zH,zJ,zr,zp,zy,isCallV,yab,yac,zD,yaE,zL,upd_n,yao,zx,pureOp,apureO,astepO,killT,aev,cv,cvc,zY,zS,storeA,cellsA,cellOk,setAll,yap,yak,yaH,yaO,yaf,yaa,yai,zV,yae,zQ,zP,isC,bsD,zi,↓reduceIte,za,zb,zh,zj,zB,zu,zK,zE,zf,zW,zX,zo,zA,yag,yaj,zR,zk,yaw,zg,zN,Value.oneCell',true_and,and_true,and_self,Nat.reduceAdd,Nat.reduceEqDiff,zz,zM,zq,zF,Ty.td24]
      refine call_meets (s1) (by simp only [aev,cv,cvc,yal,toD_nils,yah,yaq,zO,yad,zU,isC,bsD,zw] <;> rfl) ?_; simp only [zG,zH,zJ,zr,zp,zI,zy,zD,zL,yao,zx,pureOp,apureO,killT,aev,cv,cvc,binK,zY,yieldA,yap,yak,yaf,yaa,yai,yaZ,zV,yae,zQ,zP,isC,bsD,↓reduceIte,za,zb,zf,zd,zl,zk,zg,zN,true_and,and_self,Nat.reduceEqDiff,zM]
      rcases Decidable.em (g1 = 0) with j | j
      case' inl =>
        obtain ⟨ez, ef⟩ := Prod.mk.inj (e1 j)
        simp only [yan,zG,zH,zT,zJ,zr,zp,zI,zy,isCallV,yab,yac,yax,zD,zL,zx,pureOp,apureO,aev,cv,cvc,binK,zY,zS,yieldA,yaP,yar,yav,yaA,yat,isC,bsD,zi,↓reduceIte,za,zb,zh,zj,zB,zu,zf,zd,zl,zo,zA,zk,true_and,Nat.reduceAdd,Nat.reduceEqDiff,zz,zq,zF,Ty.td24,show (g1 == 0) = true by simpa using j,ez,ef,bne_self_eq_false]
      case' inr =>
        simp only [yan,zG,zH,zT,zJ,zr,zp,zI,zy,isCallV,yab,yac,zD,zL,zx,pureOp,apureO,aev,cv,cvc,zY,zS,yieldA,yaQ,yaW,yav,yat,isC,bsD,zi,↓reduceIte,za,zb,zh,zj,zB,zu,zf,zd,zl,zo,zA,zk,true_and,Nat.reduceAdd,Nat.reduceEqDiff,zz,zq,zF,Ty.td24,show (g1 == 0) = false by simpa using j]
      all_goals
        clear j
        refine call_meets (a2) (by simp only [aev,cv,cvc,yal,yah,yaq,zO,yad,zU,isC,bsD,zu,zw] <;> rfl) ?_; simp only [zG,zH,zJ,zr,zp,zy,isCallV,yab,yac,zD,yaE,zL,upd_n,yao,zx,pureOp,apureO,astepO,killT,aev,cv,cvc,zY,zS,storeA,cellsA,cellOk,setAll,yap,yak,yaH,yaO,yaf,yaa,yai,zV,yae,zQ,zP,isC,bsD,zi,↓reduceIte,za,zb,zh,zj,zB,zu,zK,zE,zf,zW,zX,zo,zA,yag,yaj,zR,zk,yaw,zg,zN,Value.oneCell',true_and,and_true,and_self,Nat.reduceAdd,Nat.reduceEqDiff,zz,zM,zq,zF,Ty.td24]
        refine call_meets (s2) (by simp only [aev,cv,cvc,yal,toD_nils,yah,yaq,zO,yad,zU,isC,bsD,zw] <;> rfl) ?_; simp only [zG,zH,zJ,zr,zp,zI,zy,zD,zL,yao,zx,pureOp,apureO,killT,aev,cv,cvc,binK,zY,yieldA,yap,yak,yaf,yaa,yai,yaZ,zV,yae,zQ,zP,isC,bsD,↓reduceIte,za,zb,zf,zd,zl,zk,zg,zN,true_and,and_self,Nat.reduceEqDiff,zM]
        rcases Decidable.em (g2 = 0) with j | j
        case' inl =>
          obtain ⟨ez, ef⟩ := Prod.mk.inj (e2 j)
          simp only [yan,zG,zH,zT,zJ,zr,zp,zI,zy,isCallV,yab,yac,yax,zD,zL,zx,pureOp,apureO,aev,cv,cvc,binK,zY,zS,yieldA,yaP,yar,yav,yaA,yat,isC,bsD,zi,↓reduceIte,za,zb,zh,zj,zB,zu,zf,zd,zl,zo,zA,zk,true_and,Nat.reduceAdd,Nat.reduceEqDiff,zz,zq,zF,Ty.td24,show (g2 == 0) = true by simpa using j,ez,ef,bne_self_eq_false]
        case' inr =>
          simp only [yan,zG,zH,zT,zJ,zr,zp,zI,zy,isCallV,yab,yac,zD,zL,zx,pureOp,apureO,aev,cv,cvc,zY,zS,yieldA,yaQ,yaW,yav,yat,isC,bsD,zi,↓reduceIte,za,zb,zh,zj,zB,zu,zf,zd,zl,zo,zA,zk,true_and,Nat.reduceAdd,Nat.reduceEqDiff,zz,zq,zF,Ty.td24,show (g2 == 0) = false by simpa using j]
      all_goals
        clear j
        refine call_meets (a3) (by simp only [aev,cv,cvc,yal,yah,yaq,zO,yad,zU,isC,bsD,zu,zw] <;> rfl) ?_; simp only [zG,zH,zJ,zr,zp,zy,isCallV,yab,yac,zD,yaE,zL,upd_n,yao,zx,pureOp,apureO,astepO,killT,aev,cv,cvc,zY,zS,storeA,cellsA,cellOk,setAll,yap,yak,yaH,yaO,yaf,yaa,yai,zV,yae,zQ,zP,isC,bsD,zi,↓reduceIte,za,zb,zh,zj,zB,zu,zK,zE,zf,zW,zX,zo,zA,yag,yaj,zR,zk,yaw,zg,zN,Value.oneCell',true_and,and_true,and_self,Nat.reduceAdd,Nat.reduceEqDiff,zz,zM,zq,zF,Ty.td24]
        refine call_meets (s3) (by simp only [aev,cv,cvc,yal,toD_nils,yah,yaq,zO,yad,zU,isC,bsD,zw] <;> rfl) ?_; simp only [zG,zH,zJ,zr,zp,zI,zy,zD,zL,yao,zx,pureOp,apureO,killT,aev,cv,cvc,binK,zY,yieldA,yap,yak,yaf,yaa,yai,yaZ,zV,yae,zQ,zP,isC,bsD,↓reduceIte,za,zb,zf,zd,zl,zk,zg,zN,true_and,and_self,Nat.reduceEqDiff,zM]
        rcases Decidable.em (g3 = 0) with j | j
        case' inl =>
          obtain ⟨ez, ef⟩ := Prod.mk.inj (e3 j)
          simp only [yan,zG,zH,zT,zJ,zr,zp,zI,zy,yax,zD,zL,zx,pureOp,apureO,aev,cv,cvc,binK,zY,lenA,lenK,zS,yieldA,yaP,yar,yav,yaA,yat,mlenA_sl,isC,bsD,zi,↓reduceIte,za,zb,zh,zj,zu,zd,zl,zk,true_and,ne_eq,not_false_eq_true,reduceCtorEq,Nat.reduceAdd,Nat.reduceEqDiff,zz,yas,Ty.td22,Ty.td24,show (g3 == 0) = true by simpa using j,ez,ef,bne_self_eq_false]
        case' inr =>
          simp only [yan,zG,zH,zT,zJ,zr,zp,zI,zy,zD,zL,zx,pureOp,apureO,aev,cv,cvc,binK,zY,lenA,lenK,zS,yieldA,yaQ,yaW,yav,yat,mlenA_sl,isC,bsD,zi,↓reduceIte,za,zb,zh,zj,zu,zd,zl,zk,true_and,ne_eq,not_false_eq_true,reduceCtorEq,Nat.reduceAdd,Nat.reduceEqDiff,zz,yas,Ty.td22,Ty.td24,show (g3 == 0) = false by simpa using j]
      all_goals
        clear j
      all_goals simp only [zG,zH,zT,yaL,zJ,seqQ_r,zr,zp,zI,zy,zD,zL,zx,yaM,pureOp,apureO,aev,cv,cvc,yieldA,yaU,yaN,yaA,yal,notExit,yaF,yaG,yaV,isC,bsD,↓reduceIte,za,zb,zd,zl,zg,and_self,Nat.reduceEqDiff,show (((0 : Nat) : Int) == 0) = true from rfl]
    | succ i =>
      simp only [hV,vV,Nat.add_one_ne_zero,if_false]
      rw [hia, List.take_length]
      obtain ⟨vs, hvs⟩ : ∃ vs : List Tm, vs = vsE (t1 ++ t2) 0 := ⟨_, rfl⟩
      have lenv : vs.length = (t1 ++ t2).length := by rw [hvs, vsE_len]
      have has1 : ∀ u ∈ t1, L30.has vs u.1 := fun u hu => hvs ▸ vsE_has (by omega) ⟨u, List.mem_append_left _ hu, rfl⟩
      have has2 : ∀ u ∈ t2, L30.has vs u.1 := fun u hu => hvs ▸ vsE_has (by omega) ⟨u, List.mem_append_right _ hu, rfl⟩
      have hev : ∀ {c : Int} {ts : List Tm}, small ts → Meets Tryz.prog 23 [ln c ts, tms vs] (.tup [I (evalE c ts vs).1, I (evalE c ts vs).2]) := fun h => eval _ _ vs h (by omega)
      rw [hal] at lenv
      have htk : List.take (t1.length + t2.length) (List.map tmV vs) = List.map tmV vs := List.take_of_length_le (by rw [List.length_map, lenv]; exact Nat.le_refl _)
      rw [← hvs]
      clear hvs
      obtain ⟨x, hx, wx, cx⟩ := L30.evalE_V (vs := vs) (l := (c1, t1)) va has1
      obtain ⟨y, hy, wy, cy⟩ := L30.evalE_V (vs := vs) (l := (c2, t2)) vb has2
      simp only at hx hy
      have p1 := hev (c := c1) (small14 hf.1)
      have p2 := hev (c := c2) (small14 hf.2)
      rw [hx] at p1
      rw [hy] at p2
      have s1 := hev (c := (addR (c1, t1) (c2, t2) 1).1.1) k1.s
      have s2 := hev (c := (addR (c1, t1) (c2, t2) (-1)).1.1) k2.s
      have s3 := hev (c := (scaleR (c1, t1) k).1.1) k3.s
      have e1 := eval_add (vs := vs) (a := (c1, t1)) (b := (c2, t2)) va vb has1 has2 hx hy
      have e2 := eval_sub (vs := vs) (a := (c1, t1)) (b := (c2, t2)) va vb has1 has2 hx hy
      have e3 := eval_scale (vs := vs) (a := (c1, t1)) (k := k) va has1 hx
      generalize addR (c1, t1) (c2, t2) 1 = r1 at *
      generalize addR (c1, t1) (c2, t2) (-1) = r2 at *
      generalize scaleR (c1, t1) k = r3 at *
      obtain ⟨⟨r1c, r1t⟩, g1⟩ := r1
      obtain ⟨⟨r2c, r2t⟩, g2⟩ := r2
      obtain ⟨⟨r3c, r3t⟩, g3⟩ := r3
      simp only at a1 a2 a3 s1 s2 s3 e1 e2 e3
      generalize evalE r1c r1t vs = q1 at *
      generalize evalE r2c r2t vs = q2 at *
      generalize evalE r3c r3t vs = q3 at *
      obtain ⟨z1, f1⟩ := q1
      obtain ⟨z2, f2⟩ := q2
      obtain ⟨z3, f3⟩ := q3
      simp only at s1 s2 s3
      obtain ⟨t0, ht0⟩ : ∃ t0 : Tm, ¬ t1.length = 0 → t1[0]? = some t0 := by
        cases t1 with
        | nil => exact ⟨(⟨#[]⟩, 0), fun h => absurd rfl h⟩
        | cons a r => exact ⟨a, fun _ => rfl⟩
      obtain ⟨v, x0⟩ := t0
      have eP := eval_put (vs := vs) (y := y) (v := v) (b := ⟨1, v, c2, t2, ⟨#[]⟩, [], ⟨#[]⟩⟩) ⟨rfl, rfl, rfl, rfl⟩ va vb has1 has2 hy
      have pS := substN c1 t1 v c2 t2 (by omega) m1 (by omega) m2
      have kS := sub_mid c1 t1 [⟨1, v, c2, t2, ⟨#[]⟩, [], ⟨#[]⟩⟩]
      generalize substR c1 t1 [⟨1, v, c2, t2, ⟨#[]⟩, [], ⟨#[]⟩⟩] = R at *
      obtain ⟨⟨pc, pt⟩, g⟩ := R
      simp only at eP pS kS
      have sP := hev (c := pc) kS.s
      have sW := eval c1 t1 ((v, y) :: vs) (small14 hf.1) (by simp only [zh]; omega)
      clear hK
      simp only [zG,zH,zT,awp_exit,zJ,seqQ_e,loopQ_e,blkQ_e,zr,zp,zy,isCallV,yab,yac,zD,zL,zx,pureOp,apureO,aev,cv,cvc,binK,zY,lenA,lenK,zS,yav,mlenA_own,isC,bsD,zi,↓reduceIte,za,zh,zj,zB,zu,zK,zE,zf,zo,zA,zk,true_and,Nat.reduceAdd,Nat.reduceEqDiff,zz,yas,zq,zF,Ty.td22,Ty.td24,show decide (((t1 ++ t2).length : Int) < ((t1 ++ t2).length : Int)) = false from decide_eq_false (by omega)]
      refine call_drop (p1) (by simp only [aev,cv,cvc,elemsA,yal,yah,yaq,yaT,zO,yad,zU,isC,bsD,↓reduceIte,za,zb,zw,zg,and_self,zq,List.length_append,zZ,lenv,htk,zq] <;> rfl) (by simp only [aev,cv,cvc,yap,yak,yaf,yaa,yai,zV,yae,yaI,zQ,zP,isC,bsD,zE,zf,zg,yam,and_self,yau,or_false]) [(74, .tup [I x, I 0]), (7, .own 4 2 (t1.length + t2.length)), (4, .ptr 1 0), (3, .ptr 0 0), (2, I k)] (by simp only [yao,zx,killT,aev,cv,cvc,Weak,isC,bsD,↓reduceIte,zR,zk,zg,true_and,and_true,and_self,Nat.reduceEqDiff] <;> simp) ?_
      simp only [zG,zH,zJ,zr,zp,zy,isCallV,yab,yac,zD,zL,zx,pureOp,apureO,aev,cv,cvc,zY,zS,isC,bsD,zi,↓reduceIte,za,zb,zh,zj,zB,zu,zf,zo,zA,zk,true_and,Nat.reduceAdd,Nat.reduceEqDiff,zz,zq,zF,Ty.td24]
      refine call_meets (p2) (by simp only [aev,cv,cvc,elemsA,yal,yah,yaq,yaT,zO,yad,zU,isC,bsD,↓reduceIte,za,zb,zw,zg,and_self,zq,zZ,lenv,htk,zq] <;> rfl) ?_; simp only [yan,zG,zH,zT,zJ,zr,zp,zI,zy,isCallV,yab,yac,yax,zD,zL,yao,zx,pureOp,apureO,killT,aev,cv,cvc,binK,zY,zS,yieldA,yar,yav,yat,yap,yak,yaf,yaa,yai,zV,yae,yaI,zQ,zP,isC,bsD,zi,↓reduceIte,za,zb,zh,zj,zB,zu,zE,zf,zd,zl,zo,zA,zk,zg,yam,true_and,and_self,Nat.reduceAdd,Nat.reduceEqDiff,zz,yau,or_false,zq,zF,Ty.td24,bne_self_eq_false,htk,zq]
      refine call_meets (a1) (by simp only [aev,cv,cvc,yal,yah,yaq,zO,yad,zU,isC,bsD,zw] <;> rfl) ?_; simp only [zG,zH,zJ,zr,zp,zy,isCallV,yab,yac,zD,yaE,zL,upd_n,yao,zx,pureOp,apureO,astepO,killT,aev,cv,cvc,zY,zS,storeA,cellsA,cellOk,setAll,yap,yak,yaH,yaO,yaf,yaa,yai,zV,yae,zQ,zP,isC,bsD,zi,↓reduceIte,za,zb,zh,zj,zB,zu,zK,zE,zf,zW,zX,zo,zA,yag,yaj,zR,zk,yaw,zg,zN,Value.oneCell',true_and,and_true,and_self,Nat.reduceAdd,Nat.reduceEqDiff,zz,zM,zq,zF,Ty.td24]
      refine (fun (H : ?P1) => ?m1) ?l1
      case m1 =>
        refine call_meets (s1) (by simp only [aev,cv,cvc,elemsA,yal,yah,yaq,yaT,zO,yad,zU,isC,bsD,↓reduceIte,za,zb,zw,zg,and_self,zq,zZ,lenv,htk,zq] <;> rfl) ?_; simp only [zG,zH,zJ,zr,zp,zI,zy,zD,zL,yao,zx,pureOp,apureO,killT,aev,cv,cvc,binK,zY,yieldA,yap,yak,yaf,yaa,yai,zV,yae,yaI,zQ,zP,isC,bsD,↓reduceIte,za,zb,zE,zf,zd,zl,zk,zg,yam,true_and,and_self,Nat.reduceEqDiff,yau,or_false,htk]
        rcases Decidable.em (g1 = 0) with j | j
        · obtain ⟨ez, ef⟩ := Prod.mk.inj (e1 j)
          simp only [yan,zG,zH,zT,zJ,zr,zp,zI,zy,isCallV,yab,yac,yax,zD,zL,zx,pureOp,apureO,aev,cv,cvc,binK,zY,zS,yieldA,yaP,yar,yav,yaA,yat,isC,bsD,zi,↓reduceIte,za,zb,zh,zj,zB,zu,zf,zd,zl,zo,zA,zk,true_and,Nat.reduceAdd,Nat.reduceEqDiff,zz,zq,zF,Ty.td24,show (g1 == 0) = true by simpa using j,ez,ef,bne_self_eq_false]
          refine call_drop (a2) (by simp only [aev,cv,cvc,yal,yah,yaq,zO,yad,zU,isC,bsD,zw] <;> rfl) (by simp only [aev,cv,cvc,yap,yak,yaH,yaO,yaf,yaa,yai,zV,yae,zQ,zP,isC,bsD,zf,zR,yaw,zg,zN,and_true,and_self,zM]) [(117, linR ((r2c, r2t), g2)), (12, I y), (10, I x), (7, .own 4 2 (t1.length + t2.length)), (4, .ptr 1 0), (3, .ptr 0 0), (2, I k)] (by simp only [yao,zx,killT,aev,cv,cvc,Weak,isC,bsD,↓reduceIte,zg,and_self,Nat.reduceEqDiff] <;> simp) ?_
          exact H
        · simp only [yan,zG,zH,zT,zJ,zr,zp,zI,zy,isCallV,yab,yac,zD,zL,zx,pureOp,apureO,aev,cv,cvc,zY,zS,yieldA,yaQ,yaW,yav,yat,isC,bsD,zi,↓reduceIte,za,zb,zh,zj,zB,zu,zf,zd,zl,zo,zA,zk,true_and,Nat.reduceAdd,Nat.reduceEqDiff,zz,zq,zF,Ty.td24,show (g1 == 0) = false by simpa using j]
          refine call_drop (a2) (by simp only [aev,cv,cvc,yal,yah,yaq,zO,yad,zU,isC,bsD,zw] <;> rfl) (by simp only [aev,cv,cvc,yap,yak,yaH,yaO,yaf,yaa,yai,zV,yae,zQ,zP,isC,bsD,zf,zR,yaw,zg,zN,and_true,and_self,zM]) [(117, linR ((r2c, r2t), g2)), (12, I y), (10, I x), (7, .own 4 2 (t1.length + t2.length)), (4, .ptr 1 0), (3, .ptr 0 0), (2, I k)] (by simp only [yao,zx,killT,aev,cv,cvc,Weak,isC,bsD,↓reduceIte,zg,and_self,Nat.reduceEqDiff] <;> simp) ?_
          exact H
      case l1 =>
        simp only [zG,zH,zJ,zr,zp,zy,isCallV,yab,yac,zD,yaE,zL,upd_n,yao,zx,pureOp,apureO,astepO,killT,aev,cv,cvc,zY,zS,storeA,cellsA,cellOk,setAll,isC,bsD,zi,↓reduceIte,za,zb,zh,zj,zB,zu,zK,zE,zf,zW,zX,zo,zA,yag,yaj,zk,zg,Value.oneCell',true_and,and_self,Nat.reduceAdd,Nat.reduceEqDiff,zz,zq,zF,Ty.td24]
        refine (fun (H : ?P2) => ?m2) ?l2
        case m2 =>
          refine call_meets (s2) (by simp only [aev,cv,cvc,elemsA,yal,yah,yaq,yaT,zO,yad,zU,isC,bsD,↓reduceIte,za,zb,zw,zg,and_self,zq,zZ,lenv,htk,zq] <;> rfl) ?_; simp only [zG,zH,zJ,zr,zp,zI,zy,zD,zL,yao,zx,pureOp,apureO,killT,aev,cv,cvc,binK,zY,yieldA,yap,yak,yaf,yaa,yai,zV,yae,yaI,zQ,zP,isC,bsD,↓reduceIte,za,zb,zE,zf,zd,zl,zk,zg,yam,true_and,and_self,Nat.reduceEqDiff,yau,or_false,htk]
          rcases Decidable.em (g2 = 0) with j | j
          · obtain ⟨ez, ef⟩ := Prod.mk.inj (e2 j)
            simp only [yan,zG,zH,zT,zJ,zr,zp,zI,zy,isCallV,yab,yac,yax,zD,zL,zx,pureOp,apureO,aev,cv,cvc,binK,zY,zS,yieldA,yaP,yar,yav,yaA,yat,isC,bsD,zi,↓reduceIte,za,zb,zh,zj,zB,zu,zf,zd,zl,zo,zA,zk,true_and,Nat.reduceAdd,Nat.reduceEqDiff,zz,zq,zF,Ty.td24,show (g2 == 0) = true by simpa using j,ez,ef,bne_self_eq_false]
            refine call_drop (a3) (by simp only [aev,cv,cvc,yal,yah,yaq,zO,yad,zU,isC,bsD,zw] <;> rfl) (by simp only [aev,cv,cvc,yap,yak,yaH,yaO,yaf,yaa,yai,zV,yae,zQ,zP,isC,bsD,zf,zR,yaw,zg,zN,and_true,and_self,zM]) [(142, linR ((r3c, r3t), g3)), (12, I y), (10, I x), (7, .own 4 2 (t1.length + t2.length)), (4, .ptr 1 0), (3, .ptr 0 0), (2, I k)] (by simp only [yao,zx,killT,aev,cv,cvc,Weak,isC,bsD,↓reduceIte,zg,and_self,Nat.reduceEqDiff] <;> simp) ?_
            exact H
          · simp only [yan,zG,zH,zT,zJ,zr,zp,zI,zy,isCallV,yab,yac,zD,zL,zx,pureOp,apureO,aev,cv,cvc,zY,zS,yieldA,yaQ,yaW,yav,yat,isC,bsD,zi,↓reduceIte,za,zb,zh,zj,zB,zu,zf,zd,zl,zo,zA,zk,true_and,Nat.reduceAdd,Nat.reduceEqDiff,zz,zq,zF,Ty.td24,show (g2 == 0) = false by simpa using j]
            refine call_drop (a3) (by simp only [aev,cv,cvc,yal,yah,yaq,zO,yad,zU,isC,bsD,zw] <;> rfl) (by simp only [aev,cv,cvc,yap,yak,yaH,yaO,yaf,yaa,yai,zV,yae,zQ,zP,isC,bsD,zf,zR,yaw,zg,zN,and_true,and_self,zM]) [(142, linR ((r3c, r3t), g3)), (12, I y), (10, I x), (7, .own 4 2 (t1.length + t2.length)), (4, .ptr 1 0), (3, .ptr 0 0), (2, I k)] (by simp only [yao,zx,killT,aev,cv,cvc,Weak,isC,bsD,↓reduceIte,zg,and_self,Nat.reduceEqDiff] <;> simp) ?_
            exact H
        case l2 =>
          simp only [zG,zH,zJ,zr,zp,zy,isCallV,yab,yac,zD,yaE,zL,upd_n,yao,zx,pureOp,apureO,astepO,killT,aev,cv,cvc,zY,zS,storeA,cellsA,cellOk,setAll,isC,bsD,zi,↓reduceIte,za,zb,zh,zj,zB,zu,zK,zE,zf,zW,zX,zo,zA,yag,yaj,zk,zg,Value.oneCell',true_and,and_self,Nat.reduceAdd,Nat.reduceEqDiff,zz,zq,zF,Ty.td24]
          refine (fun (H : ¬ 1000000000 < y ∧ ¬ y < -1000000000 → ?P3) => ?m3) ?l3
          case m3 =>
            refine call_meets (s3) (by simp only [aev,cv,cvc,elemsA,yal,yah,yaq,yaT,zO,yad,zU,isC,bsD,↓reduceIte,za,zb,zw,zg,and_self,zq,zZ,lenv,htk,zq] <;> rfl) ?_; simp only [zG,zH,zJ,zr,zp,zI,zy,zD,zL,yao,zx,pureOp,apureO,killT,aev,cv,cvc,binK,zY,yieldA,yap,yak,yaf,yaa,yai,zV,yae,yaI,zQ,zP,isC,bsD,↓reduceIte,za,zb,zE,zf,zd,zl,zk,zg,yam,true_and,and_self,Nat.reduceEqDiff,yau,or_false,htk]
            rcases Decidable.em (g3 = 0) with j | j
            case' inl =>
              obtain ⟨ez, ef⟩ := Prod.mk.inj (e3 j)
              simp only [yan,zG,zH,zT,zJ,zr,zp,zI,zy,yax,zD,zL,zx,pureOp,apureO,aev,cv,cvc,binK,zY,lenA,lenK,zS,yieldA,yaP,yar,yav,yaA,yat,mlenA_sl,isC,bsD,zi,↓reduceIte,za,zb,zh,zj,zd,zl,zk,true_and,ne_eq,not_false_eq_true,reduceCtorEq,Nat.reduceAdd,Nat.reduceEqDiff,zz,yas,Ty.td22,Ty.td24,show (g3 == 0) = true by simpa using j,ez,ef,bne_self_eq_false]
            case' inr =>
              simp only [yan,zG,zH,zT,zJ,zr,zp,zI,zy,zD,zL,zx,pureOp,apureO,aev,cv,cvc,binK,zY,lenA,lenK,zS,yieldA,yaQ,yaW,yav,yat,mlenA_sl,isC,bsD,zi,↓reduceIte,za,zb,zh,zj,zd,zl,zk,true_and,ne_eq,not_false_eq_true,reduceCtorEq,Nat.reduceAdd,Nat.reduceEqDiff,zz,yas,Ty.td22,Ty.td24,show (g3 == 0) = false by simpa using j]
            all_goals
              by_cases hl0 : t1.length = 0
              · simp only [zG,zH,zT,yaL,zJ,seqQ_r,zr,zp,zI,zy,zD,zL,zx,yaM,pureOp,apureO,aev,cv,cvc,yieldA,yaU,yaN,yaA,yal,notExit,yaF,yaG,yaV,isC,bsD,↓reduceIte,za,zb,zd,zl,zg,and_self,Nat.reduceEqDiff,zZ,show ((t1.length : Int) == 0) = true from beq_iff_eq.2 (by omega)]
              have ht1 := ht0 hl0
              simp only [zp,zI,zy,yax,zD,zL,zx,pureOp,apureO,aev,cv,cvc,binK,yieldA,yar,yat,isC,bsD,↓reduceIte,za,zb,zd,zl,zk,true_and,Nat.reduceEqDiff,zZ,show ((t1.length : Int) == 0) = false from beq_eq_false_iff_ne.2 (by omega)]
              by_cases y1 : 1000000000 < y
              · simp only [zG,zH,zT,yaL,zJ,seqQ_r,zr,zp,zI,zy,zD,zL,zx,yaM,pureOp,apureO,aev,cv,cvc,yieldA,yaU,yaN,yaA,yal,notExit,yaF,yaG,yaV,isC,bsD,↓reduceIte,za,zb,zd,zl,zg,and_self,Nat.reduceEqDiff,decide_eq_true y1]
              by_cases y2 : y < -1000000000
              · simp only [zG,zH,zT,yaL,zJ,seqQ_r,zr,zp,zI,zy,yax,zD,zL,zx,yaM,pureOp,apureO,aev,cv,cvc,binK,yieldA,yar,yaN,yat,yal,notExit,yaF,yaG,yaV,isC,bsD,↓reduceIte,za,zb,zd,zl,zg,and_self,Nat.reduceEqDiff,decide_eq_false y1,decide_eq_true y2]
              simp only [yan,zG,zH,zT,zJ,zr,zp,zI,zy,isCallV,yab,yac,yax,zD,yaE,zL,yao,zx,slot.eq_1,pureOp,apureO,astepO,bsEnd_is,killT,aev,cv,cvc,binK,zY,elO_none,loadA_d,zS,cellsA,cellOk,setAll,fillA,placeT,placesA,yieldA,yar,yav,yat,chunk,isD_c,isD_nils,isD_sl,isDL_nil,isDL_cons,isC,bsD,zi,↓reduceIte,za,zb,zh,zj,zB,zu,zK,zE,zf,zW,zX,zd,zl,zw,yaD,zo,zA,yag,yaj,zR,zk,zg,Value.oneCell',true_and,and_true,and_self,ne_eq,not_false_eq_true,reduceCtorEq,Nat.reduceAdd,Nat.reduceMul,Nat.reduceLT,Nat.reduceLeDiff,Nat.reduceEqDiff,Nat.reduceMod,zz,Int.reduceToNat,yay,yaz,zq,zF,Int.le_refl,Ty.td3,Ty.td9,Ty.td22,Ty.td24,Ty.td32,Ty.td42,Ty.td47,Ty.td49,decide_eq_false y1,decide_eq_false y2,List.getElem?_map,zZ,ht1]
              refine call_meets (pS) (by simp only [aev,cv,cvc,elemsA,yal,yah,yaq,yaT,zO,yad,zU,isC,bsD,↓reduceIte,za,zb,zh,zj,zw,zo,zg,and_self,zz,zq,zF] <;> rfl) ?_; simp only [zG,zH,zJ,zr,zp,zy,isCallV,yab,yac,zD,yaE,zL,upd_n,yao,zx,pureOp,apureO,astepO,killT,killB,killH,aev,cv,cvc,zY,zS,storeA,cellsA,cellOk,setAll,elemsA,dropL,yap,yak,yaH,yaO,yaf,yaa,yai,zV,yae,yaI,zQ,zP,killV_c,killV_nils,killV_tup,killV_agg,killV_sl,killV_own,killV_dptr,killV_ptr,killL_nil,yaY,isC,bsD,zi,↓reduceIte,za,zb,zh,zj,zB,zu,zK,zE,zf,zW,zX,zw,yaR,zo,zA,yag,yaj,zR,zk,yaw,zg,yam,Value.oneCell',true_and,and_true,and_self,reduceCtorEq,Nat.reduceAdd,Nat.reduceEqDiff,zz,yau,yaJ,yaC,or_false,yaK,yaS,zq,zF,Ty.td24]
              refine call_drop (sP) (by simp only [aev,cv,cvc,elemsA,yal,yah,yaq,yaT,zO,yad,zU,isC,bsD,↓reduceIte,za,zb,zw,zg,and_self,zq,zZ,lenv,htk,zq] <;> rfl) (by simp only [aev,cv,cvc,yap,yak,yaf,yaa,yai,zV,yae,yaI,zQ,zP,isC,bsD,zE,zf,zg,yam,and_self,yau,or_false]) [(193, .tup [I (evalE pc pt vs).1, I (evalE pc pt vs).2]), (24, S v), (15, I g), (12, I y), (7, .own 4 2 (t1.length + t2.length)), (3, .ptr 0 0)] (by simp only [yao,zx,killT,aev,cv,cvc,Weak,isC,bsD,↓reduceIte,zg,and_self,Nat.reduceEqDiff] <;> simp) ?_
              exact H ⟨y1, y2⟩
          case l3 =>
            rintro ⟨y1, y2⟩
            have eP' := eP (by omega) (by omega)
            have htk2 : List.take (1 + (t1.length + t2.length)) ([S v, I y] :: List.map tmV vs) = [S v, I y] :: List.map tmV vs := List.take_of_length_le (by rw [List.length_cons, List.length_map]; omega)
            simp only [awp_regX,zH,zJ,zr,zp,zy,zD,zL,zx,pureOp,apureO,aev,cv,cvc,zY,isC,bsD,↓reduceIte,za,zb,Nat.reduceEqDiff]
            refine drawS_wild ?_; simp (config := {maxSteps := 2000000}) only [isCallV,zx,slot.eq_1,pureOp,apureO,astepO,bsEnd_is,appA_own,appV,killT,killB,killH,aev,cv,cvc,zY,zS,cellsA,cellOk,setAll,fillA,placeT,placesA,elemsA,elemsN,rowE,chunk,isD_c,isDL_nil,isDL_cons,killV_c,killV_tup,killV_agg,killV_sl,killV_own,killV_ptr,killL_nil,yaY,isC,bsD,zi,↓reduceIte,za,zb,zh,zj,zB,zu,zK,zE,zf,zW,zX,zw,yaR,yaD,zo,List.drop_succ_cons,zA,yag,yaj,zR,zk,zg,zN,Bool.true_or,Bool.false_or,yam,Value.oneCell',true_and,and_true,and_self,ne_eq,not_false_eq_true,reduceCtorEq,Nat.reduceAdd,Nat.reduceMul,Nat.reduceLT,Nat.reduceLeDiff,Nat.reduceEqDiff,Nat.reduceMod,zz,yaJ,yaC,or_false,false_or,yay,yaz,decide_true,yaK,yaS,zq,List.drop_nil,zF,List.any_cons,List.any_nil,yaB,true_or,awpW_one,wRun_is,wOp_is,callXW_is,callXV_is,keepK_is,stepK_is,contW_is,nextW_s,confs_nil,confs_cons,conf_is,meet_nil,meet_cons,opV_move,opV_load,opV_build,opV_buildSlice,opV_call,opV_builtin,tch_move,tch_load,tch_build,tch_buildSlice,tch_app,rd_move,rd_load,rd_build,rd_buildSlice,rd_callv,rd_app,namesV_c,namesV_sl,namesV_ptr,namesV_own,namesV_agg,namesV_fn,namesL_nil,namesL_cons,namesH_nil,namesH_cons,namesB_var,namesB_row,namesB_none,killO_s,killO_n,allLt_is,maskH_is,mergeH_is,setH_is,newL_is,refsT,refsH,refsV,refsL,Bool.or_self,true_or,Nat.reduceBEq,yaB,Ty.td3,Ty.td9,Ty.td24,Ty.td33,Ty.td44,zh,zj,zZ,zK,zE,zo,lenv,htk,show (1 + (t1.length + t2.length) ≤ t1.length + t2.length + 1) = True from eq_true (by omega),zq]
            refine ⟨by omega, by omega, ?_⟩
            refine callx_meets (sW) (by simp (config := {maxSteps := 2000000}) only [aev,cv,cvc,elemsA,yal,yah,yaq,yaT,zO,yad,zU,isC,bsD,↓reduceIte,za,zb,zh,zw,zg,and_self,zh,zZ,lenv,htk,htk2,show (1 + (t1.length + t2.length) ≤ t1.length + t2.length + 1) = True from eq_true (by omega)] <;> rfl) (by simp (config := {maxSteps := 2000000}) only [aev,cv,cvc,yap,yak,yaf,yaa,yai,zV,yae,yaI,zQ,zP,isC,bsD,zE,zf,zg,yam,and_self,yau,or_false,zE,htk,show (1 + (t1.length + t2.length) ≤ t1.length + t2.length + 1) = True from eq_true (by omega)]) ?_; simp (config := {maxSteps := 2000000}) only [zG,zH,zJ,zp,zI,zy,zD,zL,zx,pureOp,apureO,killT,killB,aev,cv,cvc,binK,zY,yieldA,killV_c,killV_sl,killL_nil,yaY,isC,bsD,zi,↓reduceIte,za,zb,zh,zj,zB,zu,zK,zE,zf,zd,zl,List.drop_succ_cons,yaj,zk,zN,Bool.false_or,yam,true_and,reduceCtorEq,Nat.reduceAdd,Nat.reduceLeDiff,Nat.reduceEqDiff,zz,yaJ,yaC,or_false,false_or,yay,yaz,yaK,yaS,zq,List.drop_nil,List.any_cons,List.any_nil,awpW_nil,awpW_one,wRun_is,wOp_is,keepK_is,contW_is,nextW_s,confs_nil,confs_cons,conf_is,meet_nil,meet_cons,opV_move,opV_assign,opV_extract,opV_call,tch_move,tch_assign,tch_extract,tch_callv,rd_move,rd_assign,rd_extract,rd_callv,namesV_c,namesV_sl,namesV_own,namesV_agg,namesV_tup,namesV_fn,namesL_nil,namesL_cons,namesH_nil,namesH_cons,namesB_row,namesB_none,killO_s,killO_n,allLt_is,maskH_is,mergeH_is,setH_is,newL_is,Bool.or_self,Nat.reduceBEq,zh,zj,zK,zE,htk,show (1 + (t1.length + t2.length) ≤ t1.length + t2.length + 1) = True from eq_true (by omega),zq]
            refine ⟨by kernel_rfl, ?_⟩
            by_cases j : g = 0
            · obtain ⟨z, ez, ew⟩ := eP' j
              rw [ez, ew]
              simp only [yaL,zJ,zr,zp,zI,zy,yax,zD,zL,zx,yaM,pureOp,apureO,aev,cv,cvc,binK,yieldA,yaP,yar,yaA,yat,yal,notExit,yaF,yaG,yaV,isC,bsD,↓reduceIte,za,zb,zd,zl,zg,and_self,Nat.reduceEqDiff,show (g != 0) = false by simpa using j,beq_self_eq_true]
            · simp only [yaL,zJ,zr,zp,zI,zy,zD,zL,zx,yaM,pureOp,apureO,aev,cv,cvc,yieldA,yaQ,yaU,yaA,yal,notExit,yaF,yaG,yaV,isC,bsD,↓reduceIte,za,zb,zd,zl,zg,and_self,Nat.reduceEqDiff,show (g != 0) = true by simpa using j]

theorem end_ (W : World) (_ : True) {v0 v1 : Value} (n0 : Nat) (a0 : List AV) (f0 : Fits Tryz.prog n0 24 a0) (h0 : RepD (fun b => b < W.heap.size) W (.agg a0) v0) (n1 : Nat) (a1 : List AV) (f1 : Fits Tryz.prog n1 24 a1) (h1 : RepD (fun b => b < W.heap.size) W (.agg a1) v1) (x2 : Int) (_ : (Lit.int .i64 x2).wf = true) :
    Calls Tryz.prog 5 #[v0, v1, .int .i64 x2] W fun e w' => e = .returned (.bool true) ∧ Below W.heap.size W w' := by
  obtain ⟨c1, t1, rfl, l1⟩ := LFit.lin_ f0
  obtain ⟨c2, t2, rfl, l2⟩ := LFit.lin_ f1
  exact law_of (law c1 t1 l1 c2 t2 l2 x2) (vs := [v0, v1, .int .i64 x2]) ⟨_, _, rfl, h0, _, _, rfl, h1, _, _, rfl, rfl, rfl⟩

end Go.Proofs.YtjgaebomcdkohaaGreatDoor.L36
