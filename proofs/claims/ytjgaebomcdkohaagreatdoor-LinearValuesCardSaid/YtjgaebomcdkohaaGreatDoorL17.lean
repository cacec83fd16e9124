/- Linear expressions: their order, in the program and in its reference. -/
import Derived.Test.YtjgaebomcdkohaaGreatDoorL16
namespace Go.Proofs.YtjgaebomcdkohaaGreatDoor.L17
open Go Go.Proofs.YtjgaebomcdkohaaGreatDoor.Eng Go.Proofs.YtjgaebomcdkohaaGreatDoor Go.RowKit Go.Proofs.YtjgaebomcdkohaaGreatDoor.L1 Go.Proofs.YtjgaebomcdkohaaGreatDoor.L2 Go.Proofs.YtjgaebomcdkohaaGreatDoor.L3 Go.Proofs.YtjgaebomcdkohaaGreatDoor.L4 Go.Proofs.YtjgaebomcdkohaaGreatDoor.L5 Go.Proofs.YtjgaebomcdkohaaGreatDoor.L6 Go.Proofs.YtjgaebomcdkohaaGreatDoor.L16
open _root_.List renaming getElem?_cons_zero → za, getElem?_cons_succ → zb, length_cons → zk, length_nil → zl, append_nil → zr, getElem?_toArray → zz, take_succ_cons → zE, length_map → zK, map_cons → zL, isEmpty_nil → zM, map_nil → zP, take_nil → zR, drop_zero → zT, nil_append → zU, cons_append → yab, set_cons_zero → yaq, getElem?_map → yas, set_cons_succ → yay, all_nil → yaz, all_cons → yaE
open _root_.Bool renaming false_eq_true → zd, true_and → zh, and_self → zp, and_true → zO, or_true → zS, or_false → yaL
open _root_.Go.Proofs.YtjgaebomcdkohaaGreatDoor.Eng renaming awpOps_one → zf, awpOps_nil → zg, slot_is → zi, awpOp_is → zj, putK_is → zo, awp_reg → zu, awp_seq → zw, seqQ_n → zx, put_s → zA, resA_nil → zB, resA_tmp → zD, awp_cond → zG, awp_ret → zH, retA_is → zI, toD_c → zJ, oneA_1 → zN, condA_f → zV, condA_t → zW, awp_skip → zX, elO_s → zY, loadA_p → zZ, awp_block → yaa, consO_some → yad, ownsL_cons → yae, awpOps_if → yaf, toDL_cons → yag, ownsL_nil → yah, mlenA_sl → yaj, toDL_nil → yal, seqQ_r → yam, upd_s → yan, callW_is → yao, callV_is → yap, guardA_tt → yar, flat_c → yat, pickA_t → yau, blkQ_r → yav, ownsV_c → yaw, awp_exit → yax, guardA_ff → yaA, updK_is → yaB, awpO_is → yaC, pickA_f → yaD, eqFK_nil → yaF, loopQ_r → yaG, loopQ_e → yaH, guardA_tf → yaI, seqQ_e → yaJ, blkQ_e → yaK, loadA_d → yaM
open _root_.Nat renaming zero_add → zq, le_refl → yac
open _root_.Option renaming isSome_some → zy, bind_some → zF, map_some → zQ
open _root_.Int renaming natCast_nonneg → yai, toNat_natCast → yak
set_option linter.unusedSimpArgs false
set_option linter.unusedVariables false
set_option linter.unusedSectionVars false
set_option maxRecDepth 100000

theorem lessS (a b : ByteArray) : Op.bytesLess a.toList b.toList = decide (bs a < bs b) := by rw [ByteArray.toList_eq, ByteArray.toList_eq, Go.Proofs.bytesLess_eq]
theorem eqS (a b : ByteArray) : (a.toList == b.toList) = decide (bs a = bs b) := by rw [ByteArray.toList_eq, ByteArray.toList_eq, Bool.eq_iff_iff]; simp
theorem nanS (s : ByteArray) : Meets Tryz.prog 95 [S s] (B false) := by
  refine meets_of (X := false) Ty.mixed Tryz.func95 (by kernel_rfl) rfl (by kernel_rfl) (by simp) ?_; rw [Tryz.ntmps95, Tryz.results95]
  simp only [zu,zw,zH,zx,zg,zf,zj,zo,zA,zi,zI,pureOp,apureO,aev,cv,cvc,binK,zJ,notExit,zB,zD,zN,argT,isC,bsD,↓reduceIte,zh,true_and,reduceCtorEq,Nat.reduceEqDiff]
  simp
theorem nanI (n : Int) : Meets Tryz.prog 96 [I n] (B false) := by
  refine meets_of (X := false) Ty.mixed Tryz.func96 (by kernel_rfl) rfl (by kernel_rfl) (by simp) ?_; rw [Tryz.ntmps96, Tryz.results96]
  simp only [zu,zw,zH,zx,zg,zf,zj,zo,zA,zi,zI,pureOp,apureO,aev,cv,cvc,binK,zJ,notExit,zB,zD,zN,argT,isC,bsD,↓reduceIte,zh,true_and,reduceCtorEq,Nat.reduceEqDiff]
  simp
theorem cmpStr (a b : ByteArray) : Meets Tryz.prog 69 [S a, S b] (I (sgS a b)) := by
  unfold sgS
  refine meets_of (X := false) Ty.mixed Tryz.func69 (by kernel_rfl) rfl (by kernel_rfl) (by simp) ?_; rw [Tryz.ntmps69, Tryz.results69]
  simp only [zu,zw,zx,zg,zf,zj,isCallV,yao,yap,zo,zA,zi,pureOp,apureO,aev,cv,cvc,argT,isC,bsD,zd,↓reduceIte,zL,zP,zr,reduceCtorEq,zq]
  refine call_meets (nanS a) (by simp only [aev,cv,cvc,zJ,yad,yal,yag,isC,bsD] <;> rfl) ?_; simp only [zu,zw,zx,zg,zf,zj,isCallV,yao,yap,zo,zA,yan,zi,pureOp,apureO,killT,aev,cv,cvc,yat,yaw,yah,yae,isC,bsD,zd,↓reduceIte,zL,zP,zr,zS,reduceCtorEq,Nat.reduceEqDiff,zM]
  refine call_meets (nanS b) (by simp only [aev,cv,cvc,zJ,yad,yal,yag,isC,bsD] <;> rfl) ?_; simp only [zX,zu,zw,zG,zx,zg,zf,zj,zo,zA,yan,zi,pureOp,apureO,killT,aev,cv,cvc,binK,zV,yat,yaw,yah,yae,isC,bsD,↓reduceIte,zr,zS,reduceCtorEq,Nat.reduceEqDiff,zM]
  rcases sgL_cases (bs a) (bs b) with ⟨h, e⟩ | ⟨h, e⟩ | ⟨h, e⟩
  · rw [e]
    simp only [zu,zw,zH,zx,yam,zg,zf,zj,zo,zA,zi,zI,pureOp,apureO,aev,cv,cvc,zW,zJ,notExit,zB,zD,zN,isC,bsD,↓reduceIte,zp,and_self,lessS,decide_eq_true h]
  · rw [e]
    have h1 : ¬ bs a < bs b := fun h' => List.lt_irrefl (bs b) (by rw [h] at h'; exact h')
    simp only [zX,zu,zw,zG,zH,zx,zg,zf,zj,zo,zA,zi,zI,pureOp,apureO,aev,cv,cvc,binK,zV,zJ,notExit,zB,zD,zN,isC,bsD,↓reduceIte,zp,zS,Bool.not_true,and_self,reduceCtorEq,Nat.reduceEqDiff,lessS,eqS,decide_eq_false h1,decide_eq_true h]
  · rw [e]
    have h1 : ¬ bs a < bs b := fun h' => List.lt_irrefl (bs a) (List.lt_trans h' h)
    have h2 : ¬ bs a = bs b := fun h' => List.lt_irrefl (bs b) (by rw [h'] at h; exact h)
    simp only [zX,zu,zw,zG,zH,zx,yam,zg,zf,zj,zo,zA,zi,zI,pureOp,apureO,aev,cv,cvc,binK,zW,zV,zJ,notExit,zB,zD,zN,isC,bsD,↓reduceIte,zp,yaL,Bool.not_false,and_self,reduceCtorEq,Nat.reduceEqDiff,or_false,lessS,eqS,decide_eq_false h1,decide_eq_false h2]
theorem cmpInt (a b : Int) : Meets Tryz.prog 70 [I a, I b] (I (sgI a b)) := by
  unfold sgI
  refine meets_of (X := false) Ty.mixed Tryz.func70 (by kernel_rfl) rfl (by kernel_rfl) (by simp) ?_; rw [Tryz.ntmps70, Tryz.results70]
  simp only [zu,zw,zx,zg,zf,zj,isCallV,yao,yap,zo,zA,zi,pureOp,apureO,aev,cv,cvc,argT,isC,bsD,zd,↓reduceIte,zL,zP,zr,reduceCtorEq,zq]
  refine call_meets (nanI a) (by simp only [aev,cv,cvc,zJ,yad,yal,yag,isC,bsD] <;> rfl) ?_; simp only [zu,zw,zx,zg,zf,zj,isCallV,yao,yap,zo,zA,yan,zi,pureOp,apureO,killT,aev,cv,cvc,yat,yaw,yah,yae,isC,bsD,zd,↓reduceIte,zL,zP,zr,zS,reduceCtorEq,Nat.reduceEqDiff,zM]
  refine call_meets (nanI b) (by simp only [aev,cv,cvc,zJ,yad,yal,yag,isC,bsD] <;> rfl) ?_; simp only [zX,zu,zw,zG,zx,zg,zf,zj,zo,zA,yan,zi,pureOp,apureO,killT,aev,cv,cvc,binK,zV,yat,yaw,yah,yae,isC,bsD,↓reduceIte,zr,zh,zS,true_and,reduceCtorEq,Nat.reduceEqDiff,zM]
  by_cases h1 : a < b
  · rw [if_pos h1]
    simp only [zu,zw,zH,zx,yam,zg,zf,zj,zo,zA,zi,zI,pureOp,apureO,aev,cv,cvc,zW,zJ,notExit,zB,zD,zN,isC,bsD,↓reduceIte,zp,and_self,decide_eq_true h1]
  · rw [if_neg h1]
    by_cases h2 : b < a
    · rw [if_pos h2]
      simp only [zX,zu,zw,zG,zH,zx,yam,zg,zf,zj,zo,zA,zi,zI,pureOp,apureO,aev,cv,cvc,binK,zW,zV,zJ,notExit,zB,zD,zN,isC,bsD,↓reduceIte,zp,and_self,reduceCtorEq,Nat.reduceEqDiff,decide_eq_false h1,decide_eq_true h2]
    · rw [if_neg h2]
      simp only [zX,zu,zw,zG,zH,zx,zg,zf,zj,zo,zA,zi,zI,pureOp,apureO,aev,cv,cvc,binK,zV,zJ,notExit,zB,zD,zN,isC,bsD,↓reduceIte,zp,and_self,reduceCtorEq,Nat.reduceEqDiff,decide_eq_false h1,decide_eq_false h2]
theorem or_ (a b : Int) : Meets Tryz.prog 68 [.sl false 1 [[I a], [I b]]] (I (orI a b)) := by
  unfold orI
  refine meets_of (X := false) Ty.mixed Tryz.func68 (by kernel_rfl) rfl (by kernel_rfl) (by simp) ?_; rw [Tryz.ntmps68, Tryz.results68]
  simp only [zu,zw,yaa,awp_loop,zx,zg,zf,zj,zo,zA,zi,pureOp,apureO,aev,cv,cvc,zY,lenA,lenK,argT,yaj,isC,bsD,↓reduceIte,zk,zl,zh,true_and,reduceCtorEq,Nat.reduceAdd,zq,zy,Ty.td122]
  refine loop_k (fun k : Nat => k ≤ 2 ∧ (1 ≤ k → a = 0) ∧ (2 ≤ k → b = 0)) (fun k => ⟨18, [(8, I k), (7, I (2 : Nat)), (6, .sl false 1 [[I a], [I b]]), (3, I 0)], []⟩) (fun k => 2 - k) 0 ⟨by omega, by omega, by omega⟩ (by simp only [zi,aev,cv,cvc,Weak,isC,bsD,↓reduceIte,zO,zp,and_true,and_self,Nat.reduceEqDiff]; rfl) rfl rfl ?_
  rintro k ⟨hk, h1, h2⟩ K hK
  match k, hk with
  | 0, _ =>
    simp only [zX,zu,zw,zG,yaa,zx,zg,zf,zj,zo,zA,zi,pureOp,apureO,aev,cv,cvc,binK,zY,yaM,zW,isC,bsD,yai,zd,↓reduceIte,za,zh,true_and,Nat.reduceEqDiff,yak,Ty.td3,Ty.td122,show decide (((0 : Nat) : Int) < ((2 : Nat) : Int)) = true from rfl]
    by_cases h : a = 0
    · subst h
      simp only [zX,zu,zx,loopQ_n,blkQ_n,zg,zf,zj,zo,zA,zi,pureOp,apureO,aev,cv,cvc,binK,zV,isC,bsD,↓reduceIte,zh,true_and,Nat.reduceEqDiff,show ((0 : Int) != 0) = false from rfl]
      refine hK 1 _ ⟨by omega, by omega, by omega⟩ (by omega) ?_ rfl rfl
      simp only [zi,aev,cv,cvc,Weak,isC,bsD,↓reduceIte,zO,zp,and_true,and_self,Nat.reduceEqDiff]
      rfl
    · rw [if_neg h]
      simp only [zu,zw,zH,zx,yam,yaG,yav,zg,zf,zj,zo,zA,zi,zI,pureOp,apureO,aev,cv,cvc,zW,zJ,notExit,zB,zD,zN,isC,bsD,↓reduceIte,zp,and_self,Nat.reduceEqDiff,show (a != 0) = true by simpa using h]
  | 1, _ =>
    obtain rfl := h1 (by omega)
    simp only [zX,zu,zw,zG,yaa,zx,zg,zf,zj,zo,zA,zi,pureOp,apureO,aev,cv,cvc,binK,zY,yaM,zW,isC,bsD,yai,zd,↓reduceIte,za,zb,zh,true_and,Nat.reduceEqDiff,yak,Ty.td3,Ty.td122,show decide (((1 : Nat) : Int) < ((2 : Nat) : Int)) = true from rfl]
    by_cases h : b = 0
    · subst h
      simp only [zX,zu,zx,loopQ_n,blkQ_n,zg,zf,zj,zo,zA,zi,pureOp,apureO,aev,cv,cvc,binK,zV,isC,bsD,↓reduceIte,zh,true_and,Nat.reduceEqDiff,show ((0 : Int) != 0) = false from rfl]
      refine hK 2 _ ⟨by omega, by omega, by omega⟩ (by omega) ?_ rfl rfl
      simp only [zi,aev,cv,cvc,Weak,isC,bsD,↓reduceIte,zO,zp,and_true,and_self,Nat.reduceEqDiff]
      rfl
    · simp only [zu,zw,zH,zx,yam,yaG,yav,zg,zf,zj,zo,zA,zi,zI,pureOp,apureO,aev,cv,cvc,zW,zJ,notExit,zB,zD,zN,isC,bsD,↓reduceIte,zp,and_self,Nat.reduceEqDiff,show (b != 0) = true by simpa using h]
  | 2, _ =>
    obtain rfl := h1 (by omega)
    obtain rfl := h2 (by omega)
    simp only [zu,zw,zG,yax,zH,zx,yaJ,yaH,yaK,zg,zf,zj,zo,zA,zi,zI,pureOp,apureO,aev,cv,cvc,binK,zV,zJ,notExit,zB,zD,zN,isC,bsD,↓reduceIte,zp,and_self,Nat.reduceEqDiff,show decide (((2 : Nat) : Int) < ((2 : Nat) : Int)) = false from rfl]
theorem cl (s t : Tm) : Meets Tryz.prog 67 [.agg (tmV s), .agg (tmV t)] (I (cmpC s t)) := by
  unfold cmpC
  refine meets_of (X := false) Ty.mixed Tryz.func67 (by kernel_rfl) rfl (by kernel_rfl) (by simp) ?_; rw [Tryz.ntmps67, Tryz.results67]
  simp only [zu,awp_regD,zw,zx,zg,zf,zj,isCallV,lastOnly_cons,zo,yaB,zA,yan,zi,keepOp,pureOp,apureO,astepO,killT,aev,cv,cvc,cellsA,cellOk,argT,isC,bsD,zd,↓reduceIte,zk,zl,yab,zU,zh,true_and,reduceCtorEq,Nat.reduceEqDiff,zq,List.isEmpty_cons]
  refine drawS_tail (by kernel_rfl) ?_; simp only [awpOpsD_one,isCallV,awpOpD_is,callWD_is,callVD_is,zo,zA,zi,keepOp,pureOp,apureO,aev,cv,cvc,zY,zZ,isC,bsD,zd,↓reduceIte,za,zb,zk,zl,zL,zP,zr,zh,true_and,ne_eq,not_false_eq_true,reduceCtorEq,Nat.reduceAdd,Nat.reduceEqDiff,zq,Ty.td9,Ty.td42]
  refine calld_meets (cmpStr s.1 t.1) (by simp only [aev,cv,cvc,zJ,yad,yal,yag,isC,bsD] <;> rfl) (by simp only [aev,cv,cvc,yat,yaw,yah,yae,isC,bsD,zr,zS,zM]) ?_; simp only [awpOpsD_one,isCallV,awpOpD_is,callWD_is,callVD_is,zo,zA,zi,keepOp,pureOp,apureO,aev,cv,cvc,zY,zZ,isC,bsD,zd,↓reduceIte,za,zb,zk,zl,zL,zP,zr,zh,true_and,ne_eq,not_false_eq_true,reduceCtorEq,Nat.reduceAdd,Nat.reduceEqDiff,zq,Ty.td3,Ty.td42]
  refine calld_meets (cmpInt s.2 t.2) (by simp only [aev,cv,cvc,zJ,yad,yal,yag,isC,bsD] <;> rfl) (by simp only [aev,cv,cvc,yat,yaw,yah,yae,isC,bsD,zr,zS,zM]) ?_; simp only [zf,awpOpsD_one,zj,isCallV,yao,yap,yaB,zA,yan,zi,slot.eq_1,keepOp,pureOp,astepO,bsEnd_is,killT,aev,cv,cvc,zY,cellsA,cellOk,setAll,fillA,chunk,isD_c,isDL_nil,isDL_cons,isC,bsD,zd,↓reduceIte,zk,zl,zL,zP,yab,zU,zr,yaq,yay,zE,List.take_zero,List.drop_succ_cons,zT,yaE,yaz,zh,zp,Value.oneCell',true_and,and_self,Nat.reduceAdd,Nat.reduceMul,Nat.reduceLT,Nat.reduceLeDiff,Nat.reduceEqDiff,Nat.reduceMod,zq,List.range_succ,List.range_zero,yac,zR,Ty.td3,Ty.td122]
  refine call_meets (or_ (sgS s.1 t.1) (sgI s.2 t.2)) (by simp only [aev,cv,cvc,elemsA,toD_own,yad,yal,yag,isC,bsD,↓reduceIte,za,zb,zk,zl,zQ,zE,zp,and_self,Nat.reduceAdd,zq,yac,zR] <;> rfl) ?_; simp only [zH,zx,zg,zf,zj,zo,zA,yan,zi,zI,pureOp,apureO,killT,aev,cv,cvc,yat,ownsV_own,yah,yae,zJ,notExit,zB,zD,zN,isC,bsD,↓reduceIte,zr,zp,yaL,and_self,List.isEmpty_cons,or_false]

theorem cmpT_l {r : List Tm} {s : Tm} : cmpT (s :: r) [] = 1 := rfl
theorem cmpF (xs ys : List Tm) (hx : xs.length ≤ 1000000) (hy : ys.length ≤ 1000000) : Meets Tryz.prog 66 [tms xs, tms ys, .fn 67 []] (I (cmpT xs ys)) := by
  refine meets_of (X := false) Ty.mixed Tryz.func66 (by kernel_rfl) rfl (by kernel_rfl) (by simp) ?_; rw [Tryz.ntmps66, Tryz.results66]
  simp only [zu,zw,yaa,awp_loop,zx,zg,zf,zj,zo,zA,zi,pureOp,apureO,aev,cv,cvc,zY,lenA,lenK,argT,yaj,isC,bsD,↓reduceIte,zh,true_and,reduceCtorEq,Nat.reduceAdd,zq,zy,Ty.td22,zK]
  refine loop_g (fun k : Nat => k ≤ xs.length ∧ k ≤ ys.length ∧ cmpT xs ys = cmpT (xs.drop k) (ys.drop k)) (fun k => ⟨39, [(13, I k), (12, I xs.length), (11, tms xs), (0, tms xs), (1, tms ys), (2, .fn 67 [])], []⟩) (fun k => xs.length - k) 0 ⟨Nat.zero_le _, Nat.zero_le _, rfl⟩ (by simp only [zi,aev,cv,cvc,Weak,isC,bsD,↓reduceIte,zO,zp,and_true,and_self,reduceCtorEq,Nat.reduceEqDiff]; simp) rfl (.inl rfl) ?_
  rintro k ⟨h1, h2, h3⟩ K hK
  rw [h3]
  by_cases hlt : k < xs.length
  · have hs : xs[k]? = some xs[k] := List.getElem?_eq_getElem hlt
    rw [List.drop_eq_getElem_cons hlt] at h3 ⊢
    generalize xs[k] = s at *
    by_cases hly : k < ys.length
    · have ht : ys[k]? = some ys[k] := List.getElem?_eq_getElem hly
      rw [List.drop_eq_getElem_cons hly, cmpT, orI] at h3 ⊢
      generalize ys[k] = t at *
      simp only [zX,zu,zw,zG,yaa,zx,zg,zf,zj,isCallV,yao,yap,zo,yaB,zA,upd_n,yan,zi,pureOp,apureO,astepO,killT,aev,cv,cvc,binK,zY,lenA,lenK,yaM,zZ,storeA,cellsA,cellOk,setAll,zW,zV,yaj,isC,bsD,yai,zd,↓reduceIte,za,zb,zk,zl,zL,zP,yab,zU,zr,yaq,yay,zQ,zE,zT,yaE,yaz,zh,zp,Value.oneCell',true_and,and_self,reduceCtorEq,Nat.reduceAdd,Nat.reduceEqDiff,zq,yak,zy,yac,zR,Ty.td22,Ty.td42,show decide ((k : Int) < (xs.length : Int)) = true from decide_eq_true (by omega),yas,zK,hs,ht,show decide ((ys.length : Int) ≤ (k : Int)) = false from decide_eq_false (by omega)]
      refine call_meets (cl s t) (by simp only [aev,cv,cvc,zJ,toD_agg,yad,yal,yag,isC,bsD,zQ] <;> rfl) ?_; simp only [zu,zw,zG,zx,zg,zf,zj,zo,zA,yan,zi,pureOp,apureO,killT,aev,cv,cvc,binK,yat,yaw,ownsV_agg,yah,yae,isC,bsD,↓reduceIte,zr,zh,zS,true_and,zM]
      by_cases hc : cmpC s t = 0
      · rw [if_pos hc] at h3
        simp only [zX,zu,zx,loopQ_n,blkQ_n,zg,zf,zj,zo,zA,zi,pureOp,apureO,aev,cv,cvc,binK,zV,isC,bsD,↓reduceIte,zh,true_and,Nat.reduceEqDiff,hc,show ((0 : Int) != 0) = false from rfl]
        rw [wrap_in (by omega) (by omega)]
        refine hK (k + 1) _ ⟨by omega, by omega, h3⟩ (by omega) ?_ rfl (.trim rfl rfl rfl)
        simp only [zi,aev,cv,cvc,Weak,isC,bsD,↓reduceIte,zO,zp,and_true,and_self,reduceCtorEq,Nat.reduceEqDiff]
        simp
      · rw [if_neg hc]
        simp only [zu,zw,zH,zx,yam,yaG,yav,zg,zf,zj,zo,zA,zi,zI,pureOp,apureO,aev,cv,cvc,zW,zJ,notExit,zB,zD,zN,isC,bsD,↓reduceIte,zp,and_self,Nat.reduceEqDiff,show (cmpC s t != 0) = true by simpa using hc]
    · have h0 : ys.drop k = [] := List.drop_eq_nil_of_le (by omega)
      rw [h0, cmpT_l]
      simp only [zX,zu,zw,zG,yaa,zH,zx,yam,yaG,yav,zg,zf,zj,isCallV,zo,yaB,zA,upd_n,yan,zi,zI,pureOp,apureO,astepO,killT,aev,cv,cvc,binK,zY,lenA,lenK,yaM,storeA,cellsA,cellOk,zW,zJ,notExit,zB,zD,zN,yaj,isC,bsD,yai,zd,↓reduceIte,za,zk,zl,zU,yaq,zQ,zE,yaE,yaz,zO,zh,zp,Value.oneCell',true_and,and_true,and_self,reduceCtorEq,Nat.reduceAdd,Nat.reduceEqDiff,zq,yak,zy,yac,zR,Ty.td22,Ty.td42,show decide ((k : Int) < (xs.length : Int)) = true from decide_eq_true (by omega),yas,zK,hs,show decide ((ys.length : Int) ≤ (k : Int)) = true from decide_eq_true (by omega)]
  · have h0 : xs.drop k = [] := List.drop_eq_nil_of_le (by omega)
    rw [h0]
    by_cases hly : k < ys.length
    · rw [List.drop_eq_getElem_cons hly]
      simp only [zu,zw,zG,yax,zH,zx,yam,yaJ,yaH,yaK,zg,zf,zj,zo,zA,zi,zI,pureOp,apureO,aev,cv,cvc,binK,zY,lenA,lenK,zW,zV,zJ,notExit,zB,zD,zN,yaj,isC,bsD,↓reduceIte,zh,true_and,reduceCtorEq,Nat.reduceEqDiff,zy,Ty.td22,show decide ((k : Int) < (xs.length : Int)) = false from decide_eq_false (by omega),zK,show decide ((xs.length : Int) < (ys.length : Int)) = true from decide_eq_true (by omega)]
      rfl
    · have h0' : ys.drop k = [] := List.drop_eq_nil_of_le (by omega)
      rw [h0']
      simp only [zX,zu,zw,zG,yax,zH,zx,yaJ,yaH,yaK,zg,zf,zj,zo,zA,zi,zI,pureOp,apureO,aev,cv,cvc,binK,zY,lenA,lenK,zV,zJ,notExit,zB,zD,zN,yaj,isC,bsD,↓reduceIte,zh,true_and,reduceCtorEq,Nat.reduceEqDiff,zy,Ty.td22,show decide ((k : Int) < (xs.length : Int)) = false from decide_eq_false (by omega),zK,show decide ((xs.length : Int) < (ys.length : Int)) = false from decide_eq_false (by omega)]
      rfl
theorem compare (c1 : Int) (t1 : List Tm) (c2 : Int) (t2 : List Tm) (h1 : t1.length ≤ 1000000) (h2 : t2.length ≤ 1000000) : Meets Tryz.prog 30 [ln c1 t1, ln c2 t2] (I (cmpE (c1, t1) (c2, t2))) := by
  unfold cmpE
  refine meets_of (X := false) Ty.mixed Tryz.func30 (by kernel_rfl) rfl (by kernel_rfl) (by simp) ?_; rw [Tryz.ntmps30, Tryz.results30]
  simp only [zu,zw,zx,zg,zf,zj,isCallV,yao,yap,zo,yaB,zA,yan,zi,pureOp,apureO,astepO,killT,aev,cv,cvc,zY,zZ,cellsA,cellOk,argT,isC,bsD,zd,↓reduceIte,za,zb,zk,zl,zL,zP,yab,zU,zr,zh,true_and,ne_eq,not_false_eq_true,reduceCtorEq,Nat.reduceAdd,Nat.reduceEqDiff,zq,Ty.td22,Ty.td24]
  refine call_meets (cmpF t1 t2 h1 h2) (by simp only [aev,cv,cvc,toD_sl,toD_fn,yad,yal,yag,isC,bsD,zQ] <;> rfl) ?_; simp only [zu,zw,zx,zg,zf,zj,isCallV,yao,yap,zo,zA,yan,zi,pureOp,apureO,killT,aev,cv,cvc,zY,zZ,yat,ownsV_sl,ownsV_fn,yah,yae,isC,bsD,zd,↓reduceIte,za,zb,zk,zl,zL,zP,zr,zh,zS,true_and,ne_eq,not_false_eq_true,reduceCtorEq,Nat.reduceAdd,Nat.reduceEqDiff,zq,zM,Ty.td3,Ty.td24]
  refine call_meets (cmpInt c1 c2) (by simp only [aev,cv,cvc,zJ,yad,yal,yag,isC,bsD] <;> rfl) ?_; simp only [zf,zj,isCallV,yao,yap,yaB,yan,zi,slot.eq_1,pureOp,astepO,bsEnd_is,killT,aev,cv,cvc,zY,cellsA,cellOk,setAll,fillA,chunk,yat,isD_c,isDL_nil,isDL_cons,yaw,yah,yae,isC,bsD,zd,↓reduceIte,zk,zl,zL,zP,yab,zU,zr,yaq,yay,zE,List.take_zero,List.drop_succ_cons,zT,yaE,yaz,zh,zp,zS,Value.oneCell',true_and,and_self,Nat.reduceAdd,Nat.reduceMul,Nat.reduceLT,Nat.reduceLeDiff,Nat.reduceEqDiff,Nat.reduceMod,zq,zM,List.range_succ,List.range_zero,yac,zR,Ty.td3,Ty.td122]
  refine call_meets (or_ (cmpT t1 t2) (sgI c1 c2)) (by simp only [aev,cv,cvc,elemsA,toD_own,yad,yal,yag,isC,bsD,↓reduceIte,za,zb,zk,zl,zQ,zE,zp,and_self,Nat.reduceAdd,zq,yac,zR] <;> rfl) ?_; simp only [zH,zx,zg,zf,zj,zo,zA,yan,zi,zI,pureOp,apureO,killT,aev,cv,cvc,yat,ownsV_own,yah,yae,zJ,notExit,zB,zD,zN,isC,bsD,↓reduceIte,zr,zp,yaL,and_self,List.isEmpty_cons,or_false]

/-! The reference. -/
theorem few14 (c : Int) (ts : List Tm) (m : Nat) (hm : m ≤ 1000) (hl : ts.length ≤ 9223372036854775807) : Meets Tryz.prog 19 [ln c ts, I m] (B (ts.all (fun t => decide (t.1.size ≤ 40)) && decide (ts.length ≤ m))) := by
  refine meets_of (X := true) Ty.mixed Tryz.func19 (by kernel_rfl) rfl (by kernel_rfl) (by simp) ?_; rw [Tryz.ntmps19, Tryz.results19]
  simp only [zu,zw,yaa,awp_loop,zx,zg,zf,zj,isCallV,zo,yaB,zA,yan,zi,pureOp,apureO,astepO,killT,aev,cv,cvc,cellsA,cellOk,argT,isC,bsD,zd,↓reduceIte,zl,zU,zh,true_and,zq]
  refine loop_g (fun k : Nat => k ≤ ts.length ∧ ts.all (fun t => decide (t.1.size ≤ 40)) = (ts.drop k).all (fun t => decide (t.1.size ≤ 40))) (fun k => ⟨26, [(5, I k), (2, .ptr 0 0), (1, I m)], [some (.var 24 [I c, tms ts])]⟩) (fun k => ts.length - k) 0 ⟨Nat.zero_le _, rfl⟩ (by simp only [zi,aev,cv,cvc,Weak,isC,bsD,↓reduceIte,zO,zp,and_true,and_self,reduceCtorEq,Nat.reduceEqDiff]; rfl) rfl (.inl rfl) ?_
  rintro k ⟨h1, h2⟩ K hK
  rw [h2]
  by_cases hlt : k < ts.length
  · have ht : ts[k]? = some ts[k] := List.getElem?_eq_getElem hlt
    rw [List.drop_eq_getElem_cons hlt, List.all_cons] at h2 ⊢
    generalize ts[k] = t at *
    by_cases h40 : t.1.size ≤ 40
    · rw [decide_eq_true h40, Bool.true_and] at h2
      simp only [zX,zu,zw,zG,yaa,zx,loopQ_n,blkQ_n,zg,zf,zj,zo,zA,zi,pureOp,apureO,aev,cv,cvc,binK,zY,lenA,lenK,yaM,zZ,zW,zV,mlenA_c,yaj,isC,bsD,yai,zd,↓reduceIte,za,zb,zk,zl,zQ,zT,zh,true_and,ne_eq,not_false_eq_true,reduceCtorEq,Nat.reduceAdd,Nat.reduceEqDiff,zq,yak,zy,Ty.td9,Ty.td22,Ty.td24,Ty.td42,show decide ((k : Int) < (ts.length : Int)) = true from decide_eq_true (by omega),yas,zK,ht,show decide ((40 : Int) < (t.1.size : Int)) = false from decide_eq_false (by omega)]
      rw [wrap_in (by omega) (by omega)]
      refine hK (k + 1) _ ⟨by omega, h2⟩ (by omega) ?_ rfl (.inl rfl)
      simp only [zi,aev,cv,cvc,Weak,isC,bsD,↓reduceIte,zO,zp,and_true,and_self,Nat.reduceEqDiff]
      simp
    · rw [decide_eq_false h40, Bool.false_and, Bool.false_and]
      simp only [zX,zu,zw,zG,yaa,zH,zx,yam,yaG,yav,zg,zf,zj,zo,zA,zi,zI,pureOp,apureO,aev,cv,cvc,binK,zY,lenA,lenK,yaM,zZ,zW,zJ,notExit,zB,zD,zN,mlenA_c,yaj,isC,bsD,yai,zd,↓reduceIte,za,zb,zk,zl,zQ,zT,zO,zh,zp,true_and,and_true,and_self,ne_eq,not_false_eq_true,reduceCtorEq,Nat.reduceAdd,Nat.reduceEqDiff,zq,yak,zy,Ty.td9,Ty.td22,Ty.td24,Ty.td42,show decide ((k : Int) < (ts.length : Int)) = true from decide_eq_true (by omega),yas,zK,ht,show decide ((40 : Int) < (t.1.size : Int)) = true from decide_eq_true (by omega)]
  · have h0 : ts.drop k = [] := List.drop_eq_nil_of_le (by omega)
    rw [h0]
    simp only [zu,zw,zG,yax,zH,zx,yaJ,yaH,yaK,zg,zf,zj,zo,zA,zi,zI,pureOp,apureO,aev,cv,cvc,binK,zY,lenA,lenK,zZ,zV,zJ,notExit,zB,zD,zN,yaj,isC,bsD,zd,↓reduceIte,za,zb,zk,zl,yaz,zh,true_and,ne_eq,not_false_eq_true,reduceCtorEq,Nat.reduceAdd,Nat.reduceEqDiff,zq,zy,Ty.td22,Ty.td24,show decide ((k : Int) < (ts.length : Int)) = false from decide_eq_false (by omega),zK]
    simp
theorem refCompare (c1 : Int) (t1 : List Tm) (c2 : Int) (t2 : List Tm) (h1 : t1.length ≤ 1000000) (h2 : t2.length ≤ 1000000) : Meets Tryz.prog 31 [ln c1 t1, ln c2 t2] (I (cmpE (c1, t1) (c2, t2))) := by
  unfold cmpE
  simp only
  refine meets_of (X := true) Ty.mixed Tryz.func31 (by kernel_rfl) rfl (by kernel_rfl) (by simp) ?_; rw [Tryz.ntmps31, Tryz.results31]
  simp only [zu,zw,yaa,awp_loop,zx,zg,zf,zj,isCallV,zo,yaB,zA,yan,zi,pureOp,apureO,astepO,killT,aev,cv,cvc,cellsA,cellOk,argT,isC,bsD,zd,↓reduceIte,zk,zl,yab,zU,zh,true_and,reduceCtorEq,Nat.reduceEqDiff,zq]
  refine loop_g (fun k : Nat => k ≤ t1.length ∧ k ≤ t2.length ∧ cmpT t1 t2 = cmpT (t1.drop k) (t2.drop k)) (fun k => ⟨95, [(5, I k), (3, .ptr 1 0), (2, .ptr 0 0)], [some (.var 24 [I c1, tms t1]), some (.var 24 [I c2, tms t2])]⟩) (fun k => t1.length - k) 0 ⟨Nat.zero_le _, Nat.zero_le _, rfl⟩ (by simp only [zi,aev,cv,cvc,Weak,isC,bsD,↓reduceIte,zO,zp,and_true,and_self,Nat.reduceEqDiff]; rfl) rfl (.inl rfl) ?_
  rintro k ⟨hk1, hk2, h3⟩ K hK
  rw [h3]
  by_cases hlt : k < t1.length
  · have hs : t1[k]? = some t1[k] := List.getElem?_eq_getElem hlt
    rw [List.drop_eq_getElem_cons hlt] at h3 ⊢
    generalize t1[k] = s at *
    by_cases hly : k < t2.length
    · have ht : t2[k]? = some t2[k] := List.getElem?_eq_getElem hly
      rw [List.drop_eq_getElem_cons hly, cmpT] at h3 ⊢
      generalize t2[k] = t at *
      simp only [awp_regX,zX,zu,zw,zG,yaa,zx,zg,zf,yaf,zj,yaC,zo,zA,zi,pureOp,apureO,aev,cv,cvc,binK,zY,lenA,lenK,zZ,yieldA,yar,zW,yau,yaj,isC,bsD,zd,↓reduceIte,za,zb,zk,zl,zz,zF,zh,true_and,ne_eq,not_false_eq_true,reduceCtorEq,Nat.reduceAdd,Nat.reduceEqDiff,zq,zy,Ty.td22,Ty.td24,show decide ((k : Int) < (t1.length : Int)) = true from decide_eq_true (by omega),show decide ((k : Int) < (t2.length : Int)) = true from decide_eq_true (by omega),zK]
      refine drawS_wild ?_; simp (config := {maxSteps := 2000000}) only [zu,zw,yaa,zx,zf,yaf,zj,isCallV,zo,zA,zi,pureOp,apureO,astepO,killT,killB,aev,cv,cvc,binK,zY,yaM,zZ,storeA,cellsA,cellOk,setAll,yieldA,killV_c,killV_sl,killL_nil,killL_cons,yaF,isC,bsD,yai,zd,↓reduceIte,za,zb,zk,zl,zL,zP,yab,zU,zr,yaq,yay,zz,zF,zQ,zE,List.drop_succ_cons,zT,yaE,yaz,zh,zp,zS,Bool.true_or,Bool.false_or,yaL,Value.oneCell',true_and,and_self,ne_eq,not_false_eq_true,reduceCtorEq,Nat.reduceAdd,Nat.reduceLT,Nat.reduceLeDiff,Nat.reduceEqDiff,zq,List.mem_cons,List.not_mem_nil,or_false,false_or,yak,List.range_succ,List.range_zero,decide_true,List.zipIdx_cons,List.zipIdx_nil,yac,List.drop_nil,zR,List.any_cons,List.any_nil,true_or,awpW_nil,awpW_one,wRun_is,wOp_is,keepK_is,stepK_is,contW_is,nextW_n,nextW_s,confs_nil,confs_cons,conf_is,meet_nil,meet_cons,opV_move,opV_alloc,opV_load,opV_fieldAddr,opV_store,opV_indexAddr,tch_move,tch_alloc,tch_load,tch_fieldAddr,tch_indexAddr,tch_store,rd_move,rd_alloc,rd_load,rd_fieldAddr,rd_indexAddr,rd_store,namesV_c,namesV_junk,namesV_sl,namesV_dptr,namesV_ptr,namesV_agg,namesL_nil,namesL_cons,namesH_nil,namesH_cons,namesB_var,namesB_none,killO_s,allLt_is,maskH_is,mergeH_is,setH_is,newL_is,refsT,refsH,refsV,refsL,Bool.or_self,true_or,Nat.reduceBEq,Ty.td9,Ty.td22,Ty.td24,Ty.td42,yas,hs,ht]
      refine ⟨by kernel_rfl, ?_⟩
      unfold cmpC sgS at h3 ⊢
      rcases sgL_cases (bs s.1) (bs t.1) with ⟨h, e⟩ | ⟨h, e⟩ | ⟨h, e⟩
      · rw [e]
        simp only [zu,zw,zG,zH,zx,yam,yaG,yav,zg,zf,yaf,zj,zo,zA,zi,zI,pureOp,apureO,aev,cv,cvc,yieldA,guardA_no,guardA_ft,zW,yau,zJ,notExit,zB,zD,zN,isC,bsD,↓reduceIte,za,zb,zz,zF,zh,true_and,Nat.reduceEqDiff,lessS,decide_eq_true h]
        rfl
      · rw [e] at h3 ⊢
        have n1 : ¬ bs s.1 < bs t.1 := fun h' => List.lt_irrefl (bs t.1) (by rw [h] at h'; exact h')
        unfold sgI at h3 ⊢
        by_cases l1 : s.2 < t.2
        · rw [if_pos l1]
          simp only [zu,zw,zG,zH,zx,yam,yaG,yav,zg,zf,yaf,zj,yaC,zo,zA,zi,zI,pureOp,apureO,aev,cv,cvc,binK,zY,zZ,yieldA,yar,yaA,zW,yau,yaD,zJ,notExit,zB,zD,zN,yaF,eqOpK_e,isC,bsD,zd,↓reduceIte,za,zb,zk,zl,zz,zF,zh,true_and,ne_eq,not_false_eq_true,reduceCtorEq,Nat.reduceAdd,Nat.reduceEqDiff,zq,Ty.td3,Ty.td9,Ty.td42,lessS,eqS,decide_eq_false n1,decide_eq_true h,decide_eq_true l1]
          rfl
        · by_cases l2 : t.2 < s.2
          · rw [if_neg l1, if_pos l2]
            simp only [zX,zu,zw,zG,zH,zx,yam,loopQ_n,yaG,blkQ_n,yav,zg,zf,yaf,zj,yaC,zo,zA,zi,zI,pureOp,apureO,aev,cv,cvc,binK,zY,zZ,yieldA,yar,yaA,zW,zV,yau,yaD,zJ,notExit,zB,zD,zN,eqCK,yaF,eqFK_cons,eqOpK_e,eqOpK_n,isC,bsD,zd,↓reduceIte,za,zb,zk,zl,zz,zF,zE,zT,zO,zh,Bool.and_false,Bool.not_true,Bool.not_false,true_and,and_true,ne_eq,not_false_eq_true,reduceCtorEq,Nat.reduceAdd,Nat.reduceEqDiff,zq,zy,Option.isSome_none,yac,zR,Ty.td3,Ty.td9,Ty.td42,lessS,eqS,decide_eq_false n1,decide_eq_true h,decide_eq_false l1,show (s.2 == t.2) = false by simp; omega]
            rfl
          · rw [if_neg l1, if_neg l2] at h3
            simp only [zX,zu,zw,zG,zx,loopQ_n,blkQ_n,zg,zf,yaf,zj,yaC,zo,zA,zi,pureOp,apureO,aev,cv,cvc,binK,zY,zZ,yieldA,yar,yaA,zV,yau,yaD,eqCK,yaF,eqFK_cons,eqOpK_e,eqOpK_n,isC,bsD,zd,↓reduceIte,za,zb,zk,zl,zz,zF,zE,zT,zO,zh,Bool.not_true,true_and,and_true,ne_eq,not_false_eq_true,reduceCtorEq,Nat.reduceAdd,Nat.reduceEqDiff,zq,zy,Option.isSome_none,yac,zR,Ty.td3,Ty.td9,Ty.td42,lessS,eqS,decide_eq_false n1,decide_eq_true h,decide_eq_false l1,show (s.2 == t.2) = true by simp; omega]
            rw [wrap_in (by omega) (by omega)]
            refine hK (k + 1) _ ⟨by omega, by omega, h3⟩ (by omega) ?_ rfl (.trim rfl rfl rfl)
            simp only [zi,aev,cv,cvc,Weak,isC,bsD,↓reduceIte,zO,zp,and_true,and_self,Nat.reduceEqDiff]
            simp
      · rw [e]
        have n1 : ¬ bs s.1 < bs t.1 := fun h' => List.lt_irrefl (bs s.1) (List.lt_trans h' h)
        have n2 : ¬ bs s.1 = bs t.1 := fun h' => List.lt_irrefl (bs t.1) (by rw [h'] at h; exact h)
        simp only [zu,zw,zG,zH,zx,yam,yaG,yav,zg,zf,yaf,zj,yaC,zo,zA,zi,zI,pureOp,apureO,aev,cv,cvc,binK,zY,zZ,yieldA,yar,yaI,yaA,zW,zV,yau,yaD,zJ,notExit,zB,zD,zN,eqCK,yaF,eqFK_cons,eqOpK_e,eqOpK_n,isC,bsD,zd,↓reduceIte,za,zb,zk,zl,zz,zF,zE,zT,zO,zh,Bool.false_and,Bool.not_false,true_and,and_true,ne_eq,not_false_eq_true,reduceCtorEq,Nat.reduceAdd,Nat.reduceEqDiff,zq,zy,Option.isSome_none,yac,zR,Ty.td3,Ty.td9,Ty.td42,lessS,eqS,decide_eq_false n1,decide_eq_false n2]
        rfl
    · have h0 : t2.drop k = [] := List.drop_eq_nil_of_le (by omega)
      rw [h0, cmpT_l]
      simp only [zu,zw,zG,yaa,yax,zH,zx,yam,yaJ,yaH,yav,yaK,zg,zf,yaf,zj,yaC,zo,zA,zi,zI,pureOp,apureO,aev,cv,cvc,binK,zY,lenA,lenK,zZ,yieldA,yar,yaI,guardA_ft,yaA,zW,zV,yau,yaD,zJ,notExit,zB,zD,zN,yaj,isC,bsD,zd,↓reduceIte,za,zb,zk,zl,zz,zF,zh,true_and,ne_eq,not_false_eq_true,reduceCtorEq,Nat.reduceAdd,Nat.reduceEqDiff,zq,zy,Ty.td22,Ty.td24,show decide ((k : Int) < (t1.length : Int)) = true from decide_eq_true (by omega),show decide ((k : Int) < (t2.length : Int)) = false from decide_eq_false (by omega),zK,show decide ((t1.length : Int) < (t2.length : Int)) = false from decide_eq_false (by omega),show ((t1.length : Int) == (t2.length : Int)) = false by simp; omega,show decide ((t2.length : Int) < (t1.length : Int)) = true from decide_eq_true (by omega)]
      rfl
  · have h0 : t1.drop k = [] := List.drop_eq_nil_of_le (by omega)
    rw [h0]
    by_cases hly : k < t2.length
    · rw [List.drop_eq_getElem_cons hly]
      simp only [zu,zw,zG,yaa,yax,zH,zx,yam,yaJ,yaH,yav,yaK,zg,zf,yaf,zj,zo,zA,zi,zI,pureOp,apureO,aev,cv,cvc,binK,zY,lenA,lenK,zZ,yieldA,guardA_no,yaI,guardA_ft,zW,zV,yau,yaD,zJ,notExit,zB,zD,zN,yaj,isC,bsD,zd,↓reduceIte,za,zb,zk,zl,zz,zF,zh,true_and,ne_eq,not_false_eq_true,reduceCtorEq,Nat.reduceAdd,Nat.reduceEqDiff,zq,zy,Ty.td22,Ty.td24,show decide ((k : Int) < (t1.length : Int)) = false from decide_eq_false (by omega),zK,show decide ((t1.length : Int) < (t2.length : Int)) = true from decide_eq_true (by omega)]
      rfl
    · have h0' : t2.drop k = [] := List.drop_eq_nil_of_le (by omega)
      rw [h0']
      unfold sgI
      by_cases l1 : c1 < c2
      · rw [if_pos l1]
        simp only [zu,zw,zG,yaa,yax,zH,zx,yam,yaJ,yaH,yav,yaK,zg,zf,yaf,zj,yaC,zo,zA,zi,zI,pureOp,apureO,aev,cv,cvc,binK,zY,lenA,lenK,zZ,yieldA,yar,yaI,yaA,zW,zV,yau,yaD,zJ,notExit,zB,zD,zN,yaj,yaF,isC,bsD,zd,↓reduceIte,za,zb,zk,zl,zz,zF,zh,true_and,ne_eq,not_false_eq_true,reduceCtorEq,Nat.reduceAdd,Nat.reduceEqDiff,zq,zy,Ty.td3,Ty.td22,Ty.td24,show decide ((k : Int) < (t1.length : Int)) = false from decide_eq_false (by omega),zK,show decide ((t1.length : Int) < (t2.length : Int)) = false from decide_eq_false (by omega),show ((t1.length : Int) == (t2.length : Int)) = true by simp; omega,decide_eq_true l1]
        rfl
      · by_cases l2 : c2 < c1
        · rw [if_neg l1, if_pos l2]
          simp only [zu,zw,zG,yaa,yax,zH,zx,yam,yaJ,yaH,yav,yaK,zg,zf,yaf,zj,yaC,zo,zA,zi,zI,pureOp,apureO,aev,cv,cvc,binK,zY,lenA,lenK,zZ,yieldA,yar,yaI,yaA,zW,zV,yau,yaD,zJ,notExit,zB,zD,zN,yaj,yaF,isC,bsD,zd,↓reduceIte,za,zb,zk,zl,zz,zF,zh,true_and,ne_eq,not_false_eq_true,reduceCtorEq,Nat.reduceAdd,Nat.reduceEqDiff,zq,zy,Ty.td3,Ty.td22,Ty.td24,show decide ((k : Int) < (t1.length : Int)) = false from decide_eq_false (by omega),zK,show decide ((t1.length : Int) < (t2.length : Int)) = false from decide_eq_false (by omega),show ((t1.length : Int) == (t2.length : Int)) = true by simp; omega,decide_eq_false l1,show decide ((t2.length : Int) < (t1.length : Int)) = false from decide_eq_false (by omega),decide_eq_true l2]
          rfl
        · rw [if_neg l1, if_neg l2]
          simp only [zX,zu,zw,zG,yaa,yax,zH,zx,yaJ,yaH,blkQ_n,yaK,zg,zf,yaf,zj,yaC,zo,zA,zi,zI,pureOp,apureO,aev,cv,cvc,binK,zY,lenA,lenK,zZ,yieldA,yar,yaI,yaA,zV,yau,yaD,zJ,notExit,zB,zD,zN,yaj,yaF,isC,bsD,zd,↓reduceIte,za,zb,zk,zl,zz,zF,zh,true_and,ne_eq,not_false_eq_true,reduceCtorEq,Nat.reduceAdd,Nat.reduceEqDiff,zq,zy,Ty.td3,Ty.td22,Ty.td24,show decide ((k : Int) < (t1.length : Int)) = false from decide_eq_false (by omega),zK,show decide ((t1.length : Int) < (t2.length : Int)) = false from decide_eq_false (by omega),show ((t1.length : Int) == (t2.length : Int)) = true by simp; omega,decide_eq_false l1,show decide ((t2.length : Int) < (t1.length : Int)) = false from decide_eq_false (by omega),decide_eq_false l2]
          rfl
theorem refEqual (c1 : Int) (t1 : List Tm) (c2 : Int) (t2 : List Tm) (h1 : t1.length ≤ 1000000) (h2 : t2.length ≤ 1000000) : Meets Tryz.prog 18 [ln c1 t1, ln c2 t2] (B (eqE (c1, t1) (c2, t2))) := by
  rw [cmpE_zero]
  refine meets_of (X := false) Ty.mixed Tryz.func18 (by kernel_rfl) rfl (by kernel_rfl) (by simp) ?_; rw [Tryz.ntmps18, Tryz.results18]
  simp only [zu,zw,zx,zg,zf,zj,isCallV,yao,yap,zo,yaB,zA,yan,zi,pureOp,apureO,astepO,killT,aev,cv,cvc,zY,zZ,cellsA,cellOk,argT,isC,bsD,zd,↓reduceIte,za,zb,zk,zl,zL,zP,yab,zU,zr,zE,zT,zh,true_and,reduceCtorEq,Nat.reduceAdd,Nat.reduceEqDiff,zq,yac,zR,Ty.td24]
  refine call_meets (refCompare c1 t1 c2 t2 h1 h2) (by simp only [aev,cv,cvc,zJ,toD_agg,toD_sl,yad,yal,yag,isC,bsD,zQ] <;> rfl) ?_; simp only [zH,zx,zg,zf,zj,zo,zA,yan,zi,zI,pureOp,apureO,killT,aev,cv,cvc,binK,yat,yaw,ownsV_agg,ownsV_sl,yah,yae,zJ,notExit,zB,zD,zN,isC,bsD,↓reduceIte,zr,zp,zS,and_self,zM]
abbrev fewE (ts : List Tm) : Bool := ts.all (fun t => decide (t.1.size ≤ 40)) && decide (ts.length ≤ 14)
theorem few_ (c1 : Int) (t1 : List Tm) (c2 : Int) (t2 : List Tm) (h1 : t1.length ≤ 9223372036854775807) (h2 : t2.length ≤ 9223372036854775807) : Meets Tryz.prog 11 [ln c1 t1, ln c2 t2] (B (fewE t1 && fewE t2)) := by
  refine meets_of (X := false) Ty.mixed Tryz.func11 (by kernel_rfl) rfl (by kernel_rfl) (by simp) ?_; rw [Tryz.ntmps11, Tryz.results11]
  simp only [zu,zw,zx,zg,zf,zj,isCallV,yao,yap,zo,yaB,zA,yan,zi,pureOp,apureO,astepO,killT,aev,cv,cvc,zY,zZ,cellsA,cellOk,argT,isC,bsD,zd,↓reduceIte,za,zk,zl,zL,zP,yab,zU,zr,zE,zT,zh,true_and,reduceCtorEq,Nat.reduceAdd,Nat.reduceEqDiff,zq,yac,zR,Ty.td24]
  refine call_meets (few14 c1 t1 14 (by omega) h1) (by simp only [aev,cv,cvc,zJ,toD_agg,toD_sl,yad,yal,yag,isC,bsD,zQ] <;> rfl) ?_; simp only [zf,yaf,zj,zo,zA,yan,zi,pureOp,apureO,killT,aev,cv,cvc,yieldA,yat,yaw,ownsV_agg,ownsV_sl,yah,yae,isC,bsD,↓reduceIte,za,zb,zr,zz,zF,zS,zM]
  cases h : fewE t1 with
  | false => simp only [zH,zx,zg,zf,yaf,zj,zo,zA,zi,zI,pureOp,apureO,aev,cv,cvc,yieldA,yaI,yaD,zJ,notExit,zB,zD,zN,isC,bsD,↓reduceIte,za,zb,zz,zF,Bool.false_and,zp,and_self,Nat.reduceEqDiff,h]
  | true =>
    simp only [yaf,zj,isCallV,yao,yap,yaC,zo,zA,zi,pureOp,apureO,aev,cv,cvc,zY,zZ,yieldA,yar,isC,bsD,zd,↓reduceIte,za,zb,zk,zl,zL,zP,zr,zz,zF,zE,zT,zh,true_and,Nat.reduceAdd,Nat.reduceEqDiff,zq,yac,zR,Ty.td24,h]
    refine call_meets (few14 c2 t2 14 (by omega) h2) (by simp only [aev,cv,cvc,zJ,toD_agg,toD_sl,yad,yal,yag,isC,bsD,zQ,h] <;> rfl) ?_; simp only [zH,zx,zg,zf,zj,zo,zA,yan,zi,zI,pureOp,apureO,killT,aev,cv,cvc,yau,yat,yaw,ownsV_agg,ownsV_sl,yah,yae,zJ,notExit,zB,zD,zN,isC,bsD,↓reduceIte,zr,zp,zS,and_self,Nat.reduceEqDiff,zM,h]

end Go.Proofs.YtjgaebomcdkohaaGreatDoor.L17
