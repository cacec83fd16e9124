/- Structure: Apply in the reference. -/
import Derived.Test.YtbmmemglkjeogaaS38
import Derived.Test.YtbmmemglkjeogaaS33
namespace Go.Proofs.Ytbmmemglkjeogaa.S39
open Go Go.Proofs.Ytbmmemglkjeogaa.Eng Go.Proofs.Ytbmmemglkjeogaa Go.RowKit Go.Proofs.Ytbmmemglkjeogaa.A1 Go.Proofs.Ytbmmemglkjeogaa.A2 Go.Proofs.Ytbmmemglkjeogaa.A3 Go.Proofs.Ytbmmemglkjeogaa.A4 Go.Proofs.Ytbmmemglkjeogaa.A5 Go.Proofs.Ytbmmemglkjeogaa.A8 Go.Proofs.Ytbmmemglkjeogaa.S1 Go.Proofs.Ytbmmemglkjeogaa.S2 Go.Proofs.Ytbmmemglkjeogaa.S3 Go.Proofs.Ytbmmemglkjeogaa.S4 Go.Proofs.Ytbmmemglkjeogaa.S5 Go.Proofs.Ytbmmemglkjeogaa.S6 Go.Proofs.Ytbmmemglkjeogaa.S7 Go.Proofs.Ytbmmemglkjeogaa.S8 Go.Proofs.Ytbmmemglkjeogaa.S9 Go.Proofs.Ytbmmemglkjeogaa.S10 Go.Proofs.Ytbmmemglkjeogaa.S11 Go.Proofs.Ytbmmemglkjeogaa.S12 Go.Proofs.Ytbmmemglkjeogaa.S15 Go.Proofs.Ytbmmemglkjeogaa.S30 Go.Proofs.Ytbmmemglkjeogaa.S31 Go.Proofs.Ytbmmemglkjeogaa.S32 Go.Proofs.Ytbmmemglkjeogaa.S37 Go.Proofs.Ytbmmemglkjeogaa.S38
open _root_.List renaming getElem?_cons_zero → za, getElem?_cons_succ → zc, append_nil → zd, map_cons → zf, map_nil → zg, isEmpty_nil → zo, take_succ_cons → zp, length_nil → zx, nil_append → zy, length_cons → zD, set_cons_zero → zG, length_map → zJ, take_nil → zL, set_cons_succ → zM, drop_zero → zQ, cons_append → zW, all_cons → yac, all_nil → yaf, isEmpty_cons → yag, not_mem_nil → yah, mem_cons → yan, zipIdx_cons → yap, getElem?_toArray → yaq, zipIdx_nil → yat, getElem?_map → yaD, range_succ → yaM, range_zero → yaN, getElem?_nil → yaZ
open _root_.Bool renaming false_eq_true → zb, and_self → ze, true_and → zn, and_true → zz, or_true → zF, or_false → yae, and_false → yau, not_true → yaB, not_false → ybc
open _root_.Go.Proofs.Ytbmmemglkjeogaa.Eng renaming awpOps_one → zh, consO_some → zj, awpOp_is → zk, slot_is → zl, toDL_cons → zm, awpOps_nil → zq, putK_is → zr, toDL_nil → zt, awp_reg → zu, seqQ_n → zA, ownsL_cons → zB, ownsL_nil → zH, awp_seq → zI, put_s → zK, callW_is → zN, callV_is → zO, flatL_cons → zP, flatL_nil → zR, ownsV_c → zS, toD_c → zT, ownsV_sl → zU, flat_c → zV, flat_tup → zX, toD_sl → zY, elO_s → zZ, upd_s → yaa, awp_cond → yab, awp_skip → yad, updK_is → yai, flat_sl → yaj, resA_cell → yak, toD_agg → yam, toD_nils → yao, resA_nil → yar, resA_tmp → yas, awp_ret → yaw, retA_is → yax, loadA_p → yay, toD_tup → yaz, condA_f → yaA, killV_nils → yaE, killL_cons → yaF, ownsV_nils → yaG, awp_block → yaH, awp_exit → yaI, oneA_2 → yaK, killL_nil → yaL, ownsV_own → yaO, loopQ_e → yaP, killV_own → yaQ, killV_ptr → yaR, condA_t → yaS, upd_n → yaT, killV_sl → yaU, seqQ_e → yaV, blkQ_e → yaW, killV_c → yaX, toD_own → yaY, seqQ_r → yba, flat_agg → ybb, isDL_cons → ybd, killV_tup → ybe, awpOps_if → ybf, bsEnd_is → ybg, appA_own → ybh, isDL_nil → ybi
open _root_.Option renaming map_some → zi, map_none → yal, bind_some → yaJ
open _root_.Nat renaming le_refl → zw, zero_add → zE
open _root_.Int renaming natCast_nonneg → yav, toNat_natCast → yaC
set_option linter.unusedSimpArgs false
set_option linter.unusedVariables false
set_option linter.unusedSectionVars false
set_option maxRecDepth 100000

theorem refApply_form {e : ByteArray} {zs : List Int} {num k : Int} {l : List Ar} (hl : l.length ≤ 4096) (h : formE e zs.length l.length num = k) (hk : k ≠ 0) : Meets Try.prog 12 [S e, ints zs, I num, arrs l] (zeroT k) := by
  refine Meets.weak (r0 := zero0 k) ?_ zeroT_imp
  have hc := refRight_ e zs num l.length hl
  rw [h] at hc
  refine meets_of (X := true) Ty.mixed Try.func12 (by kernel_rfl) rfl (by kernel_rfl) (by simp) ?_; rw [Try.ntmps12, Try.results12]
  simp only [zu,zI,zA,zq,zh,zk,isCallV,zN,zO,zr,yai,zK,yaa,zl,pureOp,apureO,astepO,killT,aev,cv,cvc,zZ,lenA,lenK,argT,zb,↓reduceIte,zx,zf,zg,zy,zd,yac,yaf,zn,ze,Value.oneCell',true_and,and_self,reduceCtorEq,Nat.reduceAdd,Nat.reduceEqDiff,zE,Option.isSome_some,Ty.td25,Ty.td29,zJ]
  refine call_meets (hc) (by simp only [aev,cv,cvc,zT,zY,zj,zt,zm,show (k != 0) = true by simpa using hk] <;> rfl) ?_; simp only [zu,zI,yab,yaw,zA,yba,zq,zh,zk,isCallV,zr,yai,zK,yaT,yaa,zl,slot.eq_1,yax,pureOp,apureO,astepO,killT,aev,cv,cvc,binK,zZ,yay,storeA,cellsA,cellOk,setAll,fillA,placeT,placesA,yaS,zV,zS,zU,zH,zB,zT,yao,yaz,yam,zj,zt,zm,notExit,yar,yas,yak,yaK,zb,↓reduceIte,za,zD,zx,zf,zg,zd,zG,zM,zi,zp,zQ,yac,yaf,zn,ze,zF,Value.oneCell',true_and,and_self,ne_eq,not_false_eq_true,reduceCtorEq,Nat.reduceAdd,Nat.reduceEqDiff,zE,zo,zw,zL,Ty.td9,Ty.td22,Ty.td29,show (k != 0) = true by simpa using hk]

def uV (k : Nat) : AV := match k with | 0 => .nils | _ + 1 => .own 2 1 k
def vV (k : Nat) : AV := match k with | 0 => .nils | _ + 1 => .own 4 1 k
def uH (k : Nat) (E : List ByteArray) (L : List (List Int)) : Heap := match k with
  | 0 => [some (.var 29 [.c (.string ⟨#[]⟩), .nils, .nils])]
  | _ + 1 => [some (.var 29 [.c (.string ⟨#[]⟩), .nils, .nils]), none, some (.row 9 1 (E.map fun s => [S s])), none, some (.row 22 1 (L.map fun d => [ints d]))]

def wV (b : Nat) (k : Nat) : AV := match k with | 0 => .nils | _ + 1 => .own b 1 k
def wH0 (acc : List Int) (k : Nat) : Heap := match k with
  | 0 => [some (.var 29 [.c (.string ⟨#[]⟩), .nils, .nils])]
  | _ + 1 => [some (.var 29 [.c (.string ⟨#[]⟩), .nils, .nils]), none, some (.row 3 1 (acc.map enc))]
def wH1 (acc : List Int) (k : Nat) : Heap := match k with
  | 0 => [some (.var 29 [.c (.string ⟨#[]⟩), .nils, .nils]), none, none, none, none]
  | _ + 1 => [some (.var 29 [.c (.string ⟨#[]⟩), .nils, .nils]), none, none, none, none, none, some (.row 3 1 (acc.map enc))]

/-- What becomes of the arrays. -/
def REnds (e : ByteArray) (zs : List Int) (num : Int) (l : List Ar) (R : AV) : Prop :=
  (l.any badA = true ∧ R = zero0 1) ∨
  (l.any badA = false ∧ (resE e (l.map (·.1))).2 = false ∧ R = zero0 12) ∨
  (l.any badA = false ∧ (resE e (l.map (·.1))).2 = true ∧ (dimsE e zs num (l.map (·.2.1))).2 ≠ 0 ∧ R = zero0 (dimsE e zs num (l.map (·.2.1))).2) ∨
  (∃ el out X v, l.any badA = false ∧ resE e (l.map (·.1)) = (el, true) ∧ dimsE e zs num (l.map (·.2.1)) = (out, 0) ∧ isNm e = true ∧ Meets Try.prog 42 [S e, S el, arrs l] (.tup [arr el out X, B v, I 0]) ∧ R = .tup [arr el out X, B v, I 0]) ∨
  ∃ el out n F, l.any badA = false ∧ resE e (l.map (·.1)) = (el, true) ∧ dimsE e zs num (l.map (·.2.1)) = (out, 0) ∧ isNm e = false ∧ out.length ≤ 2 ∧ sizeE out = (n, 0) ∧ (∀ i : Nat, (i : Int) < n → ∃ is : List Int, indexE out i = (is, 0) ∧ is.length ≤ 2 ∧ Meets Try.prog 45 [S e, ints zs, I num, arrs l, ints is] (I (F i))) ∧
    checkE el out ((List.range n.toNat).map F) = 0 ∧ R = .tup [arr el out ((List.range n.toNat).map F), B false, I 0]

set_option maxHeartbeats 4000000 in
theorem refApply1_ {e : ByteArray} {zs : List Int} {num : Int} {l : List Ar} {R : AV} (hl : l.length ≤ 4096) (h : formE e zs.length l.length num = 0) (hs : ∀ a ∈ l, smallA a) (hR : REnds e zs num l R) : Meets Try.prog 12 [S e, ints zs, I num, arrs l] R := by
  have hc := refRight_ e zs num l.length hl
  rw [h] at hc
  refine meets_of (X := true) Ty.mixed Try.func12 (by kernel_rfl) rfl (by kernel_rfl) (by simp) ?_; rw [Try.ntmps12, Try.results12]
  simp only [zu,zI,zA,zq,zh,zk,isCallV,zN,zO,zr,yai,zK,yaa,zl,pureOp,apureO,astepO,killT,aev,cv,cvc,zZ,lenA,lenK,argT,zb,↓reduceIte,zx,zf,zg,zy,zd,yac,yaf,zn,ze,Value.oneCell',true_and,and_self,reduceCtorEq,Nat.reduceAdd,Nat.reduceEqDiff,zE,Option.isSome_some,Ty.td25,Ty.td29,zJ]
  refine call_meets (hc) (by simp only [aev,cv,cvc,zT,zY,zj,zt,zm] <;> rfl) ?_; simp only [yad,zu,zI,yab,yaH,awp_loop,zA,zq,zh,zk,zr,zK,yaa,zl,pureOp,apureO,killT,aev,cv,cvc,binK,yaA,zV,zS,zU,zH,zB,↓reduceIte,zd,zn,zF,true_and,zo,bne_self_eq_false]
  refine loop_g (fun k : Nat => k ≤ l.length ∧ l.any badA = (l.drop k).any badA) (fun k => ⟨131, [(14, I k), (12, uV k), (13, vV k), (0, S e), (1, ints zs), (2, I num), (3, arrs l), (8, .ptr 0 0)], uH k ((l.take k).map (·.1)) ((l.take k).map (·.2.1))⟩) (fun k => l.length - k) 0 ⟨Nat.zero_le _, rfl⟩ (by simp only [zl,aev,cv,cvc,Weak,↓reduceIte,zz,ze,and_true,and_self,reduceCtorEq,Nat.reduceEqDiff,uV,vV] <;> simp) rfl (.inl (by simp [uH])) ?_
  rintro k ⟨hk, hi⟩ K hK
  simp only at hK
  simp only [zu,zI,yab,zA,zq,zh,zk,zr,zK,zl,pureOp,apureO,aev,cv,cvc,binK,zZ,lenA,lenK,↓reduceIte,zn,true_and,reduceCtorEq,Nat.reduceEqDiff,Option.isSome_some,Ty.td25,zJ]
  refine condA_dec (fun hlt => ?_) (fun hge => ?_)
  · have hlt' : k < l.length := by omega
    have hx : l[k]? = some l[k] := List.getElem?_eq_getElem hlt'
    rw [List.drop_eq_getElem_cons hlt', List.any_cons] at hi
    have hsm := hs l[k] (List.getElem_mem _)
    have hv := refValid l[k].1 l[k].2.1 l[k].2.2 hsm.1 hsm.2
    have hnx := hK (k + 1)
    rw [List.take_succ_eq_append_getElem hlt', List.map_append, List.map_append] at hnx
    simp only [zf,zg] at hnx
    generalize l[k] = a at *
    obtain ⟨ae, ad, ax⟩ := a
    simp only at hsm hv hnx hi
    cases hb : badA (ae, ad, ax) with
    | true =>
      have hb' : (checkE ae ad ax == 0) = false := by simpa [badA] using hb
      rw [hb, Bool.true_or] at hi
      rw [hb'] at hv
      have hR0 : R = zero0 1 := by
        rcases hR with ⟨_, h⟩ | ⟨h, _⟩ | ⟨h, _⟩ | ⟨_, _, _, _, h, _⟩ | ⟨_, _, _, _, h, _⟩
        · exact h
        all_goals (rw [hi] at h; cases h)
      subst hR0
      cases k with
      | zero =>
        simp only [yad,zu,zI,yaH,zA,zh,zk,isCallV,zN,zO,zr,zK,zl,pureOp,apureO,aev,cv,cvc,zZ,loadA_d,yav,zb,↓reduceIte,zD,zx,zf,zg,zd,zi,zp,zn,true_and,reduceCtorEq,Nat.reduceAdd,Nat.reduceEqDiff,zE,yaC,zw,zL,Ty.td25,Ty.td29,uV,vV,uH,yaD,hx,encA]
        refine call_meets (hv) (by simp only [aev,cv,cvc,zT,yam,zY,zj,zt,zm,zi] <;> rfl) ?_; simp only [zu,zI,yab,yaw,zA,yba,loopQ_r,blkQ_r,zq,zh,zk,isCallV,zr,yai,zK,yaT,yaa,zl,slot.eq_1,yax,pureOp,apureO,astepO,killT,aev,cv,cvc,zZ,yay,storeA,cellsA,cellOk,setAll,fillA,placeT,placesA,yaS,zV,zS,ownsV_agg,zU,zH,zB,zT,yao,yaz,yam,zj,zt,zm,notExit,yar,yas,yak,yaK,zb,↓reduceIte,za,zD,zx,zf,zg,zd,zG,zM,zi,zp,zQ,yac,yaf,zn,ze,zF,ybc,Value.oneCell',true_and,and_self,ne_eq,not_false_eq_true,reduceCtorEq,Nat.reduceAdd,Nat.reduceEqDiff,zE,zo,zw,zL,Ty.td9,Ty.td22,Ty.td29]
      | succ k =>
        simp only [yad,zu,zI,yaH,zA,zh,zk,isCallV,zN,zO,zr,zK,zl,pureOp,apureO,aev,cv,cvc,zZ,loadA_d,yav,zb,↓reduceIte,zD,zx,zf,zg,zd,zi,zp,zn,true_and,reduceCtorEq,Nat.reduceAdd,Nat.reduceEqDiff,zE,yaC,zw,zL,Ty.td25,Ty.td29,uV,vV,uH,yaD,hx,encA]
        refine call_meets (hv) (by simp only [aev,cv,cvc,zT,yam,zY,zj,zt,zm,zi] <;> rfl) ?_; simp only [zu,zI,yab,yaw,zA,yba,loopQ_r,blkQ_r,zq,zh,zk,isCallV,zr,yai,zK,yaT,yaa,zl,slot.eq_1,yax,pureOp,apureO,astepO,killT,aev,cv,cvc,zZ,yay,storeA,cellsA,cellOk,setAll,fillA,placeT,placesA,yaS,zV,zS,ownsV_agg,zU,zH,zB,zT,yao,yaz,yam,zj,zt,zm,notExit,yar,yas,yak,yaK,zb,↓reduceIte,za,zD,zx,zf,zg,zd,zG,zM,zi,zp,zQ,yac,yaf,zn,ze,zF,ybc,Value.oneCell',true_and,and_self,ne_eq,not_false_eq_true,reduceCtorEq,Nat.reduceAdd,Nat.reduceEqDiff,zE,zo,zw,zL,Ty.td9,Ty.td22,Ty.td29]
    | false =>
      have hb' : (checkE ae ad ax == 0) = true := by simpa [badA] using hb
      rw [hb, Bool.false_or] at hi
      rw [hb'] at hv
      have hlL : ((l.take k).map (·.2.1)).length = k := by simp; omega
      have hlE : ((l.take k).map (·.1)).length = k := by simp; omega
      generalize (l.take k).map (·.2.1) = L at *
      generalize (l.take k).map (·.1) = E at *
      cases k with
      | zero =>
        obtain rfl := List.eq_nil_of_length_eq_zero hlL
        obtain rfl := List.eq_nil_of_length_eq_zero hlE
        simp only [yad,zu,zI,yaH,zA,zh,zk,isCallV,zN,zO,zr,zK,zl,pureOp,apureO,aev,cv,cvc,zZ,loadA_d,yav,zb,↓reduceIte,zD,zx,zf,zg,zd,zi,zp,zn,true_and,reduceCtorEq,Nat.reduceAdd,Nat.reduceEqDiff,zE,yaC,zw,zL,Ty.td25,Ty.td29,uV,vV,uH,yaD,hx,encA]
        refine call_meets (hv) (by simp only [aev,cv,cvc,zT,yam,zY,zj,zt,zm,zi,hx,wrap_in (x := ((0 : Nat) : Int) + 1) (by omega) (by omega)] <;> rfl) ?_; simp only [awp_regX,yad,yab,zA,zq,zh,zk,zr,zK,yaa,zl,pureOp,apureO,killT,aev,cv,cvc,yaA,zV,zS,ownsV_agg,zU,zH,zB,↓reduceIte,zd,zF,yaB,zo,hx,wrap_in (x := ((0 : Nat) : Int) + 1) (by omega) (by omega)]
        refine drawS_wild ?_; simp (config := {maxSteps := 2000000}) only [zu,zA,loopQ_n,blkQ_n,zq,zh,zk,isCallV,zr,zK,zl,slot.eq_1,pureOp,apureO,astepO,ybg,ybh,appV,killT,killB,aev,cv,cvc,binK,zZ,loadA_d,cellsA,cellOk,setAll,fillA,elemsA,elemsN,chunk,isD_c,isD_sl,ybi,ybd,yaX,yaE,yaL,yaF,yav,zb,↓reduceIte,za,zc,zD,zx,zf,zg,zW,zy,zd,zG,zi,Option.getD_some,zp,List.drop_succ_cons,zQ,yac,yaf,zz,zn,ze,zF,Bool.false_or,yae,Value.oneCell',true_and,and_true,and_self,ne_eq,not_false_eq_true,reduceCtorEq,Nat.reduceAdd,Nat.reduceMul,Nat.reduceLT,Nat.reduceLeDiff,Nat.reduceEqDiff,Nat.reduceMod,zE,yan,yah,or_false,false_or,yaC,yaM,yaN,decide_true,yap,yat,zw,List.drop_nil,zL,List.any_cons,List.any_nil,awpW_nil,awpW_one,wRun_is,wOp_is,keepK_is,stepK_is,contW_is,nextW_s,confs_nil,confs_cons,conf_is,meet_nil,meet_cons,opV_move,opV_assign,opV_load,opV_fieldAddr,opV_indexAddr,opV_buildSlice,opV_builtin,tch_move,tch_assign,tch_load,tch_fieldAddr,tch_indexAddr,tch_buildSlice,tch_app,rd_move,rd_assign,rd_load,rd_fieldAddr,rd_indexAddr,rd_buildSlice,rd_app,namesV_c,namesV_nils,namesV_sl,namesV_dptr,namesV_own,namesV_agg,namesL_nil,namesL_cons,namesH_nil,namesH_cons,namesB_row,namesB_none,killO_s,allLt_is,maskH_is,mergeH_is,setH_is,newL_is,refsT,refsH,refsV,refsL,Bool.or_self,Nat.reduceBEq,Ty.td9,Ty.td22,Ty.td25,Ty.td29,Ty.td34,Ty.td35,yaD,hx,encA,wrap_in (x := ((0 : Nat) : Int) + 1) (by omega) (by omega)]
        repeat refine ⟨by omega, ?_⟩
        refine ⟨by kernel_rfl, ?_⟩
        refine hnx _ ⟨hlt', hi⟩ (by omega) ?_ rfl (.weak (by simp [uH]) (by simp [WeakH, uH]) rfl rfl)
        simp only [zl,aev,cv,cvc,Weak,↓reduceIte,zz,ze,and_true,and_self,reduceCtorEq,Nat.reduceEqDiff,zE,uV,vV]
        simp
      | succ k =>
        have hb1 : List.take (k + 1) (L.map fun d => [ints d]) = L.map fun d => [ints d] := List.take_of_length_le (by simp; omega)
        have hb2 : List.take (k + 1) (E.map fun s => [S s]) = E.map fun s => [S s] := List.take_of_length_le (by simp; omega)
        simp only [yad,zu,zI,yaH,zA,zh,zk,isCallV,zN,zO,zr,zK,zl,pureOp,apureO,aev,cv,cvc,zZ,loadA_d,yav,zb,↓reduceIte,zD,zx,zf,zg,zd,zi,zp,zn,true_and,reduceCtorEq,Nat.reduceAdd,Nat.reduceEqDiff,zE,yaC,zw,zL,Ty.td25,Ty.td29,uV,vV,uH,yaD,hx,encA]
        refine call_meets (hv) (by simp only [aev,cv,cvc,zT,yam,zY,zj,zt,zm,zi,hx,wrap_in (x := ((k + 1 : Nat) : Int) + 1) (by omega) (by omega)] <;> rfl) ?_; simp only [awp_regX,yad,yab,zA,zq,zh,zk,zr,zK,yaa,zl,pureOp,apureO,killT,aev,cv,cvc,yaA,zV,zS,ownsV_agg,zU,zH,zB,↓reduceIte,zd,zF,yaB,zo,hx,wrap_in (x := ((k + 1 : Nat) : Int) + 1) (by omega) (by omega)]
        refine drawS_wild ?_; simp (config := {maxSteps := 2000000}) only [zu,zA,loopQ_n,blkQ_n,zq,zh,zk,isCallV,zr,zK,zl,slot.eq_1,pureOp,apureO,astepO,ybg,ybh,appV,killT,killB,killH,aev,cv,cvc,binK,zZ,loadA_d,cellsA,cellOk,setAll,fillA,elemsA,elemsN,rowE,chunk,isD_c,isD_sl,ybi,ybd,yaX,yaE,killV_junk,killV_agg,yaU,yaQ,killV_dptr,yaR,yaL,yaF,yav,zb,↓reduceIte,za,zc,zD,zx,zf,zg,zW,zy,zd,zG,zM,zi,yal,Option.getD_some,zp,List.drop_succ_cons,zQ,yac,yaf,zz,zn,ze,zF,Bool.true_or,Bool.false_or,yae,Value.oneCell',true_and,and_true,and_self,ne_eq,not_false_eq_true,reduceCtorEq,Nat.reduceAdd,Nat.reduceMul,Nat.reduceLT,Nat.reduceLeDiff,Nat.reduceEqDiff,Nat.reduceMod,zE,yan,yah,or_false,false_or,yaC,yaM,yaN,decide_true,yap,yat,zw,List.drop_nil,zL,List.any_cons,List.any_nil,yaZ,true_or,awpW_nil,awpW_one,wRun_is,wOp_is,keepK_is,stepK_is,contW_is,nextW_s,confs_nil,confs_cons,conf_is,meet_nil,meet_cons,opV_move,opV_assign,opV_load,opV_fieldAddr,opV_indexAddr,opV_buildSlice,opV_builtin,tch_move,tch_assign,tch_load,tch_fieldAddr,tch_indexAddr,tch_buildSlice,tch_app,rd_move,rd_assign,rd_load,rd_fieldAddr,rd_indexAddr,rd_buildSlice,rd_app,namesV_c,namesV_sl,namesV_dptr,namesV_own,namesV_agg,namesL_nil,namesL_cons,namesH_nil,namesH_cons,namesB_row,namesB_none,killO_s,killO_n,allLt_is,maskH_is,mergeH_is,setH_is,newL_is,refsT,refsH,refsV,refsL,Bool.or_self,true_or,Nat.reduceBEq,yaZ,Ty.td9,Ty.td22,Ty.td25,Ty.td29,Ty.td34,Ty.td35,zJ,yaD,hx,encA,hlL,hlE,hb1,hb2,wrap_in (x := ((k + 1 : Nat) : Int) + 1) (by omega) (by omega)]
        repeat refine ⟨by omega, ?_⟩
        refine ⟨by kernel_rfl, ?_⟩
        refine hnx _ ⟨hlt', hi⟩ (by omega) ?_ rfl (.weak (by simp [uH]) (by simp [WeakH, uH]) rfl rfl)
        simp only [zl,aev,cv,cvc,Weak,↓reduceIte,zz,ze,and_true,and_self,reduceCtorEq,Nat.reduceEqDiff,uV,vV]
        simp
  · have hk' : k = l.length := by omega
    subst hk'
    rw [List.drop_length] at hi
    rw [List.take_length]
    clear hK hge hk
    have hR := hR.resolve_left (fun h => by rw [hi] at h; cases h.1)
    have hlE : (l.map (·.1)).length = l.length := by simp
    have hlL : (l.map (·.2.1)).length = l.length := by simp
    have hres := refResult_ e (l.map (·.1)) (by omega)
    have hd8 : ∀ d ∈ l.map (·.2.1), d.length ≤ 1000000 := fun d hd => by
      obtain ⟨a, ha, rfl⟩ := List.mem_map.1 hd
      exact (hs a ha).1
    have hdims := S33.refDimsE_ e zs num (l.map (·.2.1)) (by omega) hd8
    have hl0 : l.length = 0 → l.map (·.1) = [] ∧ l.map (·.2.1) = [] := fun h => by rw [List.eq_nil_of_length_eq_zero h]; exact ⟨rfl, rfl⟩
    generalize resE e (l.map (·.1)) = r2 at *
    generalize dimsE e zs num (l.map (·.2.1)) = r3 at *
    generalize l.map (·.1) = E at *
    generalize l.map (·.2.1) = L at *
    obtain ⟨el, ok⟩ := r2
    obtain ⟨out, z⟩ := r3
    have hnm : (isNm e = true ∧ is_index e = true) ∨ (isNm e = true ∧ is_index e = false ∧ is_update e = true) ∨ (isNm e = false ∧ is_index e = false ∧ is_update e = false) := by
      unfold isNm
      cases is_index e <;> cases is_update e <;> simp
    simp only at hR hres hdims
    clear hi hs hd8 hc h
    rcases hR with ⟨_, rfl, rfl⟩ | ⟨_, rfl, hz, rfl⟩ | ⟨el', out', X, v, _, he, hd, hN, hch, rfl⟩ | ⟨el', out', n, F, _, he, hd, hN, ho2, hsz, hF, hck, rfl⟩
    all_goals
      obtain ⟨m, hm⟩ : ∃ m, l.length = m := ⟨_, rfl⟩
    · cases m with
      | zero =>
        obtain ⟨rfl, rfl⟩ := hl0 hm
        simp only [zu,zI,yaI,zA,yaV,yaP,yaW,zh,zk,isCallV,zN,zO,zr,zK,zl,pureOp,apureO,aev,cv,cvc,zb,↓reduceIte,zf,zg,zd,reduceCtorEq,Nat.reduceEqDiff,uV,vV,uH,hm]
        refine call_meets (Meets.nil (pre := [S e]) (post := []) hres) (by simp only [aev,cv,cvc,zT,yao,zj,zt,zm,zW,zy] <;> rfl) ?_
        simp only [zu,zI,yab,yaw,zA,yba,zq,zh,zk,isCallV,zr,yai,zK,yaT,yaa,zl,slot.eq_1,yax,pureOp,apureO,astepO,killT,aev,cv,cvc,zZ,yay,storeA,cellsA,cellOk,setAll,fillA,placeT,placesA,yaS,zV,zX,zR,zP,zS,yaG,zH,zB,zT,yao,yaz,yam,zj,zt,zm,notExit,yar,yas,yak,yaK,zb,↓reduceIte,za,zc,zD,zx,zf,zg,zd,zG,zM,zi,zp,zQ,yac,yaf,zn,ze,zF,ybc,Value.oneCell',true_and,and_self,ne_eq,not_false_eq_true,reduceCtorEq,Nat.reduceAdd,Nat.reduceEqDiff,zE,zo,zw,zL,Ty.td9,Ty.td22,Ty.td29]
      | succ k =>
        have hb2 : List.take (k + 1) (E.map fun s => [S s]) = E.map fun s => [S s] := List.take_of_length_le (by simp; omega)
        simp only [zu,zI,yaI,zA,yaV,yaP,yaW,zh,zk,isCallV,zN,zO,zr,zK,zl,pureOp,apureO,aev,cv,cvc,zb,↓reduceIte,zf,zg,zd,reduceCtorEq,Nat.reduceEqDiff,uV,vV,uH,hm]
        refine call_meets (hres) (by simp only [aev,cv,cvc,elemsA,zT,yaY,zj,zt,zm,↓reduceIte,za,zc,zi,ze,and_self,zw,zJ,hlE,hm,hb2] <;> rfl) ?_; simp only [zu,zI,yab,yaw,zA,yba,zq,zh,zk,isCallV,zr,yai,zK,yaT,yaa,zl,slot.eq_1,yax,pureOp,apureO,astepO,killT,aev,cv,cvc,zZ,yay,storeA,cellsA,cellOk,setAll,fillA,placeT,placesA,yaS,zV,zX,zR,zP,zS,yaO,zH,zB,zT,yao,yaz,yam,zj,zt,zm,notExit,yar,yas,yak,yaK,zb,↓reduceIte,za,zc,zD,zx,zf,zg,zy,zd,zG,zM,zi,zp,zQ,yac,yaf,zn,ze,yae,ybc,Value.oneCell',true_and,and_self,ne_eq,not_false_eq_true,reduceCtorEq,Nat.reduceAdd,Nat.reduceEqDiff,zE,yag,or_false,zw,zL,Ty.td9,Ty.td22,Ty.td29,zJ,hlE,hm,hb2]
    · cases m with
      | zero =>
        obtain ⟨rfl, rfl⟩ := hl0 hm
        simp only [zu,zI,yaI,zA,yaV,yaP,yaW,zh,zk,isCallV,zN,zO,zr,zK,zl,pureOp,apureO,aev,cv,cvc,zb,↓reduceIte,zf,zg,zd,reduceCtorEq,Nat.reduceEqDiff,uV,vV,uH,hm]
        refine call_meets (Meets.nil (pre := [S e]) (post := []) hres) (by simp only [aev,cv,cvc,zT,yao,zj,zt,zm,zW,zy] <;> rfl) ?_
        simp only [yad,zu,zI,yab,zA,zq,zh,zk,isCallV,zN,zO,zr,zK,yaa,zl,pureOp,apureO,killT,aev,cv,cvc,zZ,yaA,zV,zX,zR,zP,zS,yaG,zH,zB,zb,↓reduceIte,za,zc,zf,zg,zd,ze,zF,yaB,and_self,reduceCtorEq,Nat.reduceEqDiff,zo]
        refine call_meets (Meets.nil (pre := [S e, ints zs, I num]) (post := []) hdims) (by simp only [aev,cv,cvc,zT,yao,zY,zj,zt,zm,zW,zy] <;> rfl) ?_
        simp only [zu,zI,yab,yaw,zA,yba,zq,zh,zk,isCallV,zr,yai,zK,yaT,yaa,zl,slot.eq_1,yax,pureOp,apureO,astepO,killT,aev,cv,cvc,binK,zZ,yay,storeA,cellsA,cellOk,setAll,fillA,placeT,placesA,yaS,zV,zX,yaj,zR,zP,zS,yaG,zU,zH,zB,zT,yao,yaz,yam,zj,zt,zm,notExit,yar,yas,yak,yaK,zb,↓reduceIte,za,zc,zD,zx,zf,zg,zd,zG,zM,zi,zp,zQ,yac,yaf,zz,zn,ze,zF,Value.oneCell',true_and,and_true,and_self,ne_eq,not_false_eq_true,reduceCtorEq,Nat.reduceAdd,Nat.reduceEqDiff,zE,zo,zw,zL,Ty.td9,Ty.td22,Ty.td29,show (z != 0) = true by simpa using hz]
      | succ k =>
        have hb1 : List.take (k + 1) (L.map fun d => [ints d]) = L.map fun d => [ints d] := List.take_of_length_le (by simp; omega)
        have hb2 : List.take (k + 1) (E.map fun s => [S s]) = E.map fun s => [S s] := List.take_of_length_le (by simp; omega)
        simp only [zu,zI,yaI,zA,yaV,yaP,yaW,zh,zk,isCallV,zN,zO,zr,zK,zl,pureOp,apureO,aev,cv,cvc,zb,↓reduceIte,zf,zg,zd,reduceCtorEq,Nat.reduceEqDiff,uV,vV,uH,hm]
        refine call_meets (hres) (by simp only [aev,cv,cvc,elemsA,zT,yaY,zj,zt,zm,↓reduceIte,za,zc,zi,ze,and_self,zw,zJ,hlE,hm,hb2] <;> rfl) ?_; simp only [yad,zu,zI,yab,zA,zq,zh,zk,isCallV,zN,zO,zr,zK,yaa,zl,pureOp,apureO,killT,aev,cv,cvc,zZ,yaA,zV,zX,zR,zP,zS,yaO,zH,zB,zb,↓reduceIte,za,zc,zf,zg,zy,zd,ze,yae,yaB,and_self,reduceCtorEq,Nat.reduceEqDiff,yag,or_false,hlE,hm,hb2]
        refine call_meets (hdims) (by simp only [aev,cv,cvc,elemsA,zT,zY,yaY,zj,zt,zm,↓reduceIte,za,zc,zi,ze,and_self,zw,zJ,hlL,hm,hb1,show (z != 0) = true by simpa using hz] <;> rfl) ?_; simp only [zu,zI,yab,yaw,zA,yba,zq,zh,zk,isCallV,zr,yai,zK,yaT,yaa,zl,slot.eq_1,yax,pureOp,apureO,astepO,killT,killB,killH,aev,cv,cvc,binK,zZ,yay,storeA,cellsA,cellOk,setAll,fillA,placeT,placesA,yaS,elemsA,dropL,zV,zX,yaj,zR,zP,zS,zU,yaO,zH,zB,zT,yao,yaz,yam,zj,zt,zm,yaX,yaE,ybe,yaU,yaQ,yaR,yaL,yaF,notExit,yar,yas,yak,yaK,zb,↓reduceIte,za,zc,zD,zx,zf,zg,zy,zd,zG,zM,zi,yal,zp,zQ,yac,yaf,zz,zn,ze,yae,Value.oneCell',true_and,and_true,and_self,ne_eq,not_false_eq_true,reduceCtorEq,Nat.reduceAdd,Nat.reduceEqDiff,zE,yag,yan,yah,or_false,yap,yat,zw,zL,Ty.td9,Ty.td22,Ty.td29,zJ,hlL,hm,hb1,show (z != 0) = true by simpa using hz]
    · obtain ⟨rfl, rfl⟩ := Prod.mk.inj he
      obtain ⟨rfl, rfl⟩ := Prod.mk.inj hd
      cases m with
      | zero =>
        obtain ⟨rfl, rfl⟩ := hl0 hm
        simp only [zu,zI,yaI,zA,yaV,yaP,yaW,zh,zk,isCallV,zN,zO,zr,zK,zl,pureOp,apureO,aev,cv,cvc,zb,↓reduceIte,zf,zg,zd,reduceCtorEq,Nat.reduceEqDiff,uV,vV,uH,hm]
        refine call_meets (Meets.nil (pre := [S e]) (post := []) hres) (by simp only [aev,cv,cvc,zT,yao,zj,zt,zm,zW,zy] <;> rfl) ?_
        simp only [yad,zu,zI,yab,zA,zq,zh,zk,isCallV,zN,zO,zr,zK,yaa,zl,pureOp,apureO,killT,aev,cv,cvc,zZ,yaA,zV,zX,zR,zP,zS,yaG,zH,zB,zb,↓reduceIte,za,zc,zf,zg,zd,ze,zF,yaB,and_self,reduceCtorEq,Nat.reduceEqDiff,zo]
        refine call_meets (Meets.nil (pre := [S e, ints zs, I num]) (post := []) hdims) (by simp only [aev,cv,cvc,zT,yao,zY,zj,zt,zm,zW,zy] <;> rfl) ?_
        rcases hnm with ⟨_, g1⟩ | ⟨_, g1, g2⟩ | ⟨g0, _⟩
        · simp only [yad,zu,zI,yab,zA,zq,zh,ybf,zk,isCallV,zN,zO,zr,zK,yaa,zl,pureOp,apureO,killT,aev,cv,cvc,binK,zZ,yieldA,guardA_ft,yaS,yaA,pickA_t,zV,zX,yaj,zR,zP,zS,yaG,zU,zH,zB,zb,↓reduceIte,za,zc,zf,zg,zd,yaq,yaJ,zz,zn,ze,zF,true_and,and_true,and_self,reduceCtorEq,Nat.reduceEqDiff,zo,bne_self_eq_false,g1]
          refine call_meets (hch) (by simp only [aev,cv,cvc,zT,zY,zj,zt,zm] <;> rfl) ?_; simp only [yaw,zA,yba,zq,zh,zk,isCallV,zr,yai,zK,yaT,yaa,zl,yax,pureOp,apureO,astepO,killT,aev,cv,cvc,zZ,yay,storeA,cellsA,cellOk,setAll,zV,zX,ybb,yaj,zR,zP,zS,zU,zH,zB,zT,yaz,yam,zY,zj,zt,zm,notExit,yar,yas,yak,yaK,zb,↓reduceIte,za,zc,zD,zx,zd,zG,zM,zi,zp,zQ,zz,zn,yau,ze,zF,true_and,and_true,and_self,reduceCtorEq,Nat.reduceAdd,Nat.reduceEqDiff,zE,zo,zw,zL,Ty.td29]
        · simp only [yad,zu,zI,yab,zA,zq,zh,ybf,zk,isCallV,zN,zO,awpO_is,zr,zK,yaa,zl,pureOp,apureO,killT,aev,cv,cvc,binK,zZ,yieldA,guardA_ff,yaS,yaA,pickA_f,zV,zX,yaj,zR,zP,zS,yaG,zU,zH,zB,zb,↓reduceIte,za,zc,zf,zg,zd,yaq,yaJ,zz,zn,ze,zF,true_and,and_true,and_self,reduceCtorEq,Nat.reduceEqDiff,zo,bne_self_eq_false,g1,g2]
          refine call_meets (hch) (by simp only [aev,cv,cvc,zT,zY,zj,zt,zm] <;> rfl) ?_; simp only [yaw,zA,yba,zq,zh,zk,isCallV,zr,yai,zK,yaT,yaa,zl,yax,pureOp,apureO,astepO,killT,aev,cv,cvc,zZ,yay,storeA,cellsA,cellOk,setAll,zV,zX,ybb,yaj,zR,zP,zS,zU,zH,zB,zT,yaz,yam,zY,zj,zt,zm,notExit,yar,yas,yak,yaK,zb,↓reduceIte,za,zc,zD,zx,zd,zG,zM,zi,zp,zQ,zz,zn,yau,ze,zF,true_and,and_true,and_self,reduceCtorEq,Nat.reduceAdd,Nat.reduceEqDiff,zE,zo,zw,zL,Ty.td29]
        · rw [hN] at g0; cases g0
      | succ k =>
        have hb1 : List.take (k + 1) (L.map fun d => [ints d]) = L.map fun d => [ints d] := List.take_of_length_le (by simp; omega)
        have hb2 : List.take (k + 1) (E.map fun s => [S s]) = E.map fun s => [S s] := List.take_of_length_le (by simp; omega)
        simp only [zu,zI,yaI,zA,yaV,yaP,yaW,zh,zk,isCallV,zN,zO,zr,zK,zl,pureOp,apureO,aev,cv,cvc,zb,↓reduceIte,zf,zg,zd,reduceCtorEq,Nat.reduceEqDiff,uV,vV,uH,hm]
        refine call_meets (hres) (by simp only [aev,cv,cvc,elemsA,zT,yaY,zj,zt,zm,↓reduceIte,za,zc,zi,ze,and_self,zw,zJ,hlE,hm,hb2] <;> rfl) ?_; simp only [yad,zu,zI,yab,zA,zq,zh,zk,isCallV,zN,zO,zr,zK,yaa,zl,pureOp,apureO,killT,aev,cv,cvc,zZ,yaA,zV,zX,zR,zP,zS,yaO,zH,zB,zb,↓reduceIte,za,zc,zf,zg,zy,zd,ze,yae,yaB,and_self,reduceCtorEq,Nat.reduceEqDiff,yag,or_false,hlE,hm,hb2]
        rcases hnm with ⟨_, g1⟩ | ⟨_, g1, g2⟩ | ⟨g0, _⟩
        · refine call_meets (hdims) (by simp only [aev,cv,cvc,elemsA,zT,zY,yaY,zj,zt,zm,↓reduceIte,za,zc,zi,ze,and_self,zw,zJ,hlL,hm,hb1,g1] <;> rfl) ?_; simp only [yad,zu,zI,yab,zA,zq,zh,ybf,zk,isCallV,zN,zO,zr,zK,yaa,zl,pureOp,apureO,killT,killB,killH,aev,cv,cvc,binK,zZ,yieldA,guardA_ft,yaS,yaA,pickA_t,elemsA,dropL,zV,zX,yaj,zR,zP,zS,zU,yaO,zH,zB,yaX,yaE,ybe,yaU,yaQ,yaR,yaL,yaF,zb,↓reduceIte,za,zc,zf,zg,zy,zd,yaq,yaJ,zi,yal,zz,zn,ze,yae,true_and,and_true,and_self,reduceCtorEq,Nat.reduceAdd,Nat.reduceEqDiff,zE,yag,yan,yah,or_false,yap,yat,zw,zJ,hlL,hm,hb1,bne_self_eq_false,g1]
          refine call_meets (hch) (by simp only [aev,cv,cvc,zT,zY,zj,zt,zm] <;> rfl) ?_; simp only [yaw,zA,yba,zq,zh,zk,isCallV,zr,yai,zK,yaT,yaa,zl,yax,pureOp,apureO,astepO,killT,aev,cv,cvc,zZ,yay,storeA,cellsA,cellOk,setAll,zV,zX,ybb,yaj,zR,zP,zS,zU,zH,zB,zT,yaz,yam,zY,zj,zt,zm,notExit,yar,yas,yak,yaK,zb,↓reduceIte,za,zc,zD,zx,zd,zG,zM,zi,zp,zQ,zz,zn,yau,ze,zF,true_and,and_true,and_self,reduceCtorEq,Nat.reduceAdd,Nat.reduceEqDiff,zE,zo,zw,zL,Ty.td29]
        · refine call_meets (hdims) (by simp only [aev,cv,cvc,elemsA,zT,zY,yaY,zj,zt,zm,↓reduceIte,za,zc,zi,ze,and_self,zw,zJ,hlL,hm,hb1,g1,g2] <;> rfl) ?_; simp only [yad,zu,zI,yab,zA,zq,zh,ybf,zk,isCallV,zN,zO,awpO_is,zr,zK,yaa,zl,pureOp,apureO,killT,killB,killH,aev,cv,cvc,binK,zZ,yieldA,guardA_ff,yaS,yaA,pickA_f,elemsA,dropL,zV,zX,yaj,zR,zP,zS,zU,yaO,zH,zB,yaX,yaE,ybe,yaU,yaQ,yaR,yaL,yaF,zb,↓reduceIte,za,zc,zf,zg,zy,zd,yaq,yaJ,zi,yal,zz,zn,ze,yae,true_and,and_true,and_self,reduceCtorEq,Nat.reduceAdd,Nat.reduceEqDiff,zE,yag,yan,yah,or_false,yap,yat,zw,zJ,hlL,hm,hb1,bne_self_eq_false,g1,g2]
          refine call_meets (hch) (by simp only [aev,cv,cvc,zT,zY,zj,zt,zm] <;> rfl) ?_; simp only [yaw,zA,yba,zq,zh,zk,isCallV,zr,yai,zK,yaT,yaa,zl,yax,pureOp,apureO,astepO,killT,aev,cv,cvc,zZ,yay,storeA,cellsA,cellOk,setAll,zV,zX,ybb,yaj,zR,zP,zS,zU,zH,zB,zT,yaz,yam,zY,zj,zt,zm,notExit,yar,yas,yak,yaK,zb,↓reduceIte,za,zc,zD,zx,zd,zG,zM,zi,zp,zQ,zz,zn,yau,ze,zF,true_and,and_true,and_self,reduceCtorEq,Nat.reduceAdd,Nat.reduceEqDiff,zE,zo,zw,zL,Ty.td29]
        · rw [hN] at g0; cases g0
    · obtain ⟨rfl, rfl⟩ := Prod.mk.inj he
      obtain ⟨rfl, rfl⟩ := Prod.mk.inj hd
      have g12 : is_index e = false ∧ is_update e = false := by
        rcases hnm with ⟨g0, _⟩ | ⟨g0, _⟩ | ⟨_, g1, g2⟩
        · rw [hN] at g0; cases g0
        · rw [hN] at g0; cases g0
        · exact ⟨g1, g2⟩
      obtain ⟨g1, g2⟩ := g12
      have hrz := refSize out (by omega)
      rw [hsz] at hrz
      have hnz := sizeE_bound out
      rw [hsz] at hnz
      simp only at hnz
      cases m with
      | zero =>
        obtain ⟨rfl, rfl⟩ := hl0 hm
        simp only [zu,zI,yaI,zA,yaV,yaP,yaW,zh,zk,isCallV,zN,zO,zr,zK,zl,pureOp,apureO,aev,cv,cvc,zb,↓reduceIte,zf,zg,zd,reduceCtorEq,Nat.reduceEqDiff,uV,vV,uH,hm]
        refine call_meets (Meets.nil (pre := [S e]) (post := []) hres) (by simp only [aev,cv,cvc,zT,yao,zj,zt,zm,zW,zy] <;> rfl) ?_
        simp only [yad,zu,zI,yab,zA,zq,zh,zk,isCallV,zN,zO,zr,zK,yaa,zl,pureOp,apureO,killT,aev,cv,cvc,zZ,yaA,zV,zX,zR,zP,zS,yaG,zH,zB,zb,↓reduceIte,za,zc,zf,zg,zd,ze,zF,yaB,and_self,reduceCtorEq,Nat.reduceEqDiff,zo]
        refine call_meets (Meets.nil (pre := [S e, ints zs, I num]) (post := []) hdims) (by simp only [aev,cv,cvc,zT,yao,zY,zj,zt,zm,zW,zy] <;> rfl) ?_
        simp only [yad,zu,zI,yab,zA,zq,zh,ybf,zk,isCallV,zN,zO,awpO_is,zr,zK,yaa,zl,pureOp,apureO,killT,aev,cv,cvc,binK,zZ,yieldA,guardA_ff,yaA,pickA_f,zV,zX,yaj,zR,zP,zS,yaG,zU,zH,zB,zb,↓reduceIte,za,zc,zf,zg,zd,yaq,yaJ,zz,zn,ze,zF,true_and,and_true,and_self,reduceCtorEq,Nat.reduceEqDiff,zo,bne_self_eq_false,g1,g2]
        refine call_meets (hrz) (by simp only [aev,cv,cvc,zY,zj,zt,zm] <;> rfl) ?_; simp only [zu,zI,yaH,awp_loop,zA,zq,zh,zk,zr,zK,yaa,zl,pureOp,apureO,killT,aev,cv,cvc,zZ,zV,zX,zR,zP,zU,zH,zB,↓reduceIte,za,zc,zd,ze,zF,and_self,Nat.reduceEqDiff,zo]
        refine loop_g (fun k : Nat => k ≤ n.toNat) (fun k => ⟨131, [(21, I k), (18, I n), (20, wV 2 k), (15, S el), (17, ints out), (0, S e), (1, ints zs), (2, I num), (3, arrs l), (8, .ptr 0 0)], wH0 ((List.range k).map F) k⟩) (fun k => n.toNat - k) 0 (Nat.zero_le _) (by simp only [zl,aev,cv,cvc,Weak,↓reduceIte,zz,ze,and_true,and_self,reduceCtorEq,Nat.reduceEqDiff,wV] <;> simp) rfl (.inl (by simp [wH0])) ?_
        intro k hk K hK
        simp only at hK
        simp only [zu,zI,yab,zA,zq,zh,zk,zr,zK,zl,pureOp,apureO,aev,cv,cvc,binK,↓reduceIte,zn,true_and,Nat.reduceEqDiff]
        refine condA_dec (fun hlt => ?_) (fun hge => ?_)
        · obtain ⟨is, hi1, hi2, hel⟩ := hF k hlt
          have hidx := refIndex out k (by omega)
          rw [hi1] at hidx
          have hnx := hK (k + 1)
          rw [List.range_succ, List.map_append, List.map_cons, List.map_nil] at hnx
          have hal : ((List.range k).map F).length = k := by simp
          generalize (List.range k).map F = acc at *
          generalize F k = r at *
          cases k with
          | zero =>
            obtain rfl := List.eq_nil_of_length_eq_zero hal
            simp only [yad,zu,zI,yaH,zA,zh,zk,isCallV,zN,zO,zr,zK,zl,pureOp,apureO,aev,cv,cvc,zb,↓reduceIte,zf,zg,zd,Nat.reduceEqDiff,wV,wH0]
            refine call_meets (hidx) (by simp only [aev,cv,cvc,zT,zY,zj,zt,zm] <;> rfl) ?_; simp only [zu,zA,zq,zh,zk,isCallV,zN,zO,zr,zK,yaa,zl,pureOp,apureO,killT,aev,cv,cvc,zZ,zV,zX,yaj,zR,zP,zS,zU,zH,zB,zb,↓reduceIte,za,zc,zf,zg,zd,zz,ze,zF,and_true,and_self,reduceCtorEq,Nat.reduceEqDiff,zo]
            refine call_meets (hel) (by simp only [aev,cv,cvc,zT,zY,zj,zt,zm,wrap_in (x := ((0 : Nat) : Int) + 1) (by omega) (by omega)] <;> rfl) ?_; simp only [zu,zA,loopQ_n,blkQ_n,zq,zh,zk,isCallV,zr,yai,zK,yaa,zl,slot.eq_1,pureOp,apureO,astepO,ybg,ybh,appV,killT,aev,cv,cvc,binK,zZ,cellsA,cellOk,setAll,fillA,elemsA,elemsN,chunk,zV,isD_c,ybi,ybd,zS,zU,zH,zB,zb,↓reduceIte,za,zc,zD,zx,zf,zg,zW,zy,zd,zG,zp,zQ,yac,yaf,zn,ze,zF,Value.oneCell',true_and,and_self,Nat.reduceAdd,Nat.reduceMul,Nat.reduceLT,Nat.reduceLeDiff,Nat.reduceEqDiff,Nat.reduceMod,zE,zo,yaM,yaN,zw,zL,Ty.td3,Ty.td22,wrap_in (x := ((0 : Nat) : Int) + 1) (by omega) (by omega)]
            repeat refine ⟨by omega, ?_⟩
            refine hnx _ (by omega) (by omega) ?_ rfl (.weak (by simp [wH0]) (by simp [WeakH, wH0]) rfl rfl)
            simp only [zl,aev,cv,cvc,Weak,↓reduceIte,zz,ze,and_true,and_self,reduceCtorEq,Nat.reduceEqDiff,zE,wV]
            simp
          | succ k =>
            have hbt : List.take (k + 1) (List.map enc acc) = List.map enc acc := List.take_of_length_le (by simp; omega)
            simp only [yad,zu,zI,yaH,zA,zh,zk,isCallV,zN,zO,zr,zK,zl,pureOp,apureO,aev,cv,cvc,zb,↓reduceIte,zf,zg,zd,Nat.reduceEqDiff,wV,wH0]
            refine call_meets (hidx) (by simp only [aev,cv,cvc,zT,zY,zj,zt,zm] <;> rfl) ?_; simp only [zu,zA,zq,zh,zk,isCallV,zN,zO,zr,zK,yaa,zl,pureOp,apureO,killT,aev,cv,cvc,zZ,zV,zX,yaj,zR,zP,zS,zU,zH,zB,zb,↓reduceIte,za,zc,zf,zg,zd,zz,ze,zF,and_true,and_self,reduceCtorEq,Nat.reduceEqDiff,zo]
            refine call_meets (hel) (by simp only [aev,cv,cvc,zT,zY,zj,zt,zm,hal,hbt,wrap_in (x := ((k + 1 : Nat) : Int) + 1) (by omega) (by omega)] <;> rfl) ?_; simp only [zu,zA,loopQ_n,blkQ_n,zq,zh,zk,isCallV,zr,yai,zK,yaa,zl,slot.eq_1,pureOp,apureO,astepO,ybg,ybh,appV,killT,killB,killH,aev,cv,cvc,binK,zZ,cellsA,cellOk,setAll,fillA,elemsA,elemsN,rowE,chunk,zV,isD_c,ybi,ybd,zS,zU,zH,zB,yaX,yaE,ybe,yaU,yaQ,yaR,yaL,yaF,zb,↓reduceIte,za,zc,zD,zx,zf,zg,zW,zy,zd,zG,zM,zi,yal,zp,zQ,yac,yaf,zn,ze,zF,yae,Value.oneCell',true_and,and_self,reduceCtorEq,Nat.reduceAdd,Nat.reduceMul,Nat.reduceLT,Nat.reduceLeDiff,Nat.reduceEqDiff,Nat.reduceMod,zE,zo,yan,yah,or_false,yaM,yaN,zw,zL,yaZ,Ty.td3,Ty.td22,zJ,hal,hbt,wrap_in (x := ((k + 1 : Nat) : Int) + 1) (by omega) (by omega)]
            repeat refine ⟨by omega, ?_⟩
            refine hnx _ (by omega) (by omega) ?_ rfl (.trim (by simp [wH0]) rfl rfl)
            simp only [zl,aev,cv,cvc,Weak,↓reduceIte,zz,ze,and_true,and_self,reduceCtorEq,Nat.reduceEqDiff,wV]
            simp
        · obtain rfl : k = n.toNat := by omega
          have hal : ((List.range n.toNat).map F).length = n.toNat := by simp
          have hof := refOf el out ((List.range n.toNat).map F) (by omega) (by omega)
          unfold ofE at hof
          rw [if_pos hck] at hof
          clear hK hnz hF hck
          generalize (List.range n.toNat).map F = acc at *
          generalize n.toNat = nn at *
          cases nn with
          | zero =>
            obtain rfl := List.eq_nil_of_length_eq_zero hal
            simp only [zu,zI,yaI,zA,yaV,yaP,yaW,zh,zk,isCallV,zN,zO,zr,zK,zl,pureOp,apureO,aev,cv,cvc,zb,↓reduceIte,zf,zg,zd,Nat.reduceEqDiff,wV,wH0]
            refine call_meets (Meets.nil (pre := [S el, ints out]) (post := []) hof) (by simp only [aev,cv,cvc,zT,yao,zY,zj,zt,zm,zW,zy] <;> rfl) ?_
            simp only [zu,zI,yaw,zA,zq,zh,zk,isCallV,zr,yai,zK,yaT,yaa,zl,yax,pureOp,apureO,astepO,killT,aev,cv,cvc,zZ,yay,storeA,cellsA,cellOk,setAll,zV,zX,ybb,yaj,zR,zP,zS,yaG,zU,zH,zB,zT,yaz,yam,zY,zj,zt,zm,notExit,yar,yas,yak,yaK,zb,↓reduceIte,za,zc,zD,zx,zg,zd,zG,zM,zi,zp,zQ,zz,zn,yau,ze,zF,Value.oneCell',true_and,and_true,and_self,reduceCtorEq,Nat.reduceAdd,Nat.reduceLeDiff,Nat.reduceEqDiff,zE,zo,zw,zL,Ty.td29]
            try simp
          | succ k =>
            have hbt : List.take (k + 1) (List.map enc acc) = List.map enc acc := List.take_of_length_le (by simp; omega)
            simp only [zu,zI,yaI,zA,yaV,yaP,yaW,zh,zk,isCallV,zN,zO,zr,zK,zl,pureOp,apureO,aev,cv,cvc,zb,↓reduceIte,zf,zg,zd,Nat.reduceEqDiff,wV,wH0]
            refine call_meets (hof) (by simp only [aev,cv,cvc,elemsA,zT,zY,yaY,zj,zt,zm,↓reduceIte,za,zc,zi,ze,and_self,zw,zJ,hal,hbt] <;> rfl) ?_; simp only [zu,zI,yaw,zA,zq,zh,zk,isCallV,zr,yai,zK,yaT,yaa,zl,yax,pureOp,apureO,astepO,killT,killB,killH,aev,cv,cvc,zZ,yay,storeA,cellsA,cellOk,setAll,elemsA,dropL,zV,zX,ybb,yaj,zR,zP,zS,zU,yaO,zH,zB,zT,yaz,yam,zY,zj,zt,zm,yaX,yaE,yaU,yaQ,yaR,yaL,yaF,notExit,yar,yas,yak,yaK,zb,↓reduceIte,za,zc,zD,zx,zf,zg,zy,zd,zG,zM,zi,yal,zp,zQ,zz,zn,yau,ze,yae,Value.oneCell',true_and,and_true,and_self,reduceCtorEq,Nat.reduceAdd,Nat.reduceLeDiff,Nat.reduceEqDiff,zE,yag,yan,yah,or_false,yap,yat,zw,zL,Ty.td29,zJ,hal,hbt]
            try simp
      | succ k =>
        have hb1 : List.take (k + 1) (L.map fun d => [ints d]) = L.map fun d => [ints d] := List.take_of_length_le (by simp; omega)
        have hb2 : List.take (k + 1) (E.map fun s => [S s]) = E.map fun s => [S s] := List.take_of_length_le (by simp; omega)
        simp only [zu,zI,yaI,zA,yaV,yaP,yaW,zh,zk,isCallV,zN,zO,zr,zK,zl,pureOp,apureO,aev,cv,cvc,zb,↓reduceIte,zf,zg,zd,reduceCtorEq,Nat.reduceEqDiff,uV,vV,uH,hm]
        refine call_meets (hres) (by simp only [aev,cv,cvc,elemsA,zT,yaY,zj,zt,zm,↓reduceIte,za,zc,zi,ze,and_self,zw,zJ,hlE,hm,hb2] <;> rfl) ?_; simp only [yad,zu,zI,yab,zA,zq,zh,zk,isCallV,zN,zO,zr,zK,yaa,zl,pureOp,apureO,killT,aev,cv,cvc,zZ,yaA,zV,zX,zR,zP,zS,yaO,zH,zB,zb,↓reduceIte,za,zc,zf,zg,zy,zd,ze,yae,yaB,and_self,reduceCtorEq,Nat.reduceEqDiff,yag,or_false,hlE,hm,hb2]
        refine call_meets (hdims) (by simp only [aev,cv,cvc,elemsA,zT,zY,yaY,zj,zt,zm,↓reduceIte,za,zc,zi,ze,and_self,zw,zJ,hlL,hm,hb1,g1,g2] <;> rfl) ?_; simp only [yad,zu,zI,yab,zA,zq,zh,ybf,zk,isCallV,zN,zO,awpO_is,zr,zK,yaa,zl,pureOp,apureO,killT,killB,killH,aev,cv,cvc,binK,zZ,yieldA,guardA_ff,yaA,pickA_f,elemsA,dropL,zV,zX,yaj,zR,zP,zS,zU,yaO,zH,zB,yaX,yaE,ybe,yaU,yaQ,yaR,yaL,yaF,zb,↓reduceIte,za,zc,zf,zg,zy,zd,yaq,yaJ,zi,yal,zz,zn,ze,yae,true_and,and_true,and_self,reduceCtorEq,Nat.reduceAdd,Nat.reduceEqDiff,zE,yag,yan,yah,or_false,yap,yat,zw,zJ,hlL,hm,hb1,bne_self_eq_false,g1,g2]
        refine call_meets (hrz) (by simp only [aev,cv,cvc,zY,zj,zt,zm] <;> rfl) ?_; simp only [zu,zI,yaH,awp_loop,zA,zq,zh,zk,zr,zK,yaa,zl,pureOp,apureO,killT,aev,cv,cvc,zZ,zV,zX,zR,zP,zU,zH,zB,↓reduceIte,za,zc,zd,ze,zF,and_self,Nat.reduceEqDiff,zo]
        refine loop_g (fun k : Nat => k ≤ n.toNat) (fun k => ⟨131, [(21, I k), (18, I n), (20, wV 6 k), (15, S el), (17, ints out), (0, S e), (1, ints zs), (2, I num), (3, arrs l), (8, .ptr 0 0)], wH1 ((List.range k).map F) k⟩) (fun k => n.toNat - k) 0 (Nat.zero_le _) (by simp only [zl,aev,cv,cvc,Weak,↓reduceIte,zz,ze,and_true,and_self,reduceCtorEq,Nat.reduceEqDiff,wV] <;> simp) rfl (.weak (by simp [wH1]) (by simp [WeakH, wH1]) rfl rfl) ?_
        intro k hk K hK
        simp only at hK
        simp only [zu,zI,yab,zA,zq,zh,zk,zr,zK,zl,pureOp,apureO,aev,cv,cvc,binK,↓reduceIte,zn,true_and,Nat.reduceEqDiff]
        refine condA_dec (fun hlt => ?_) (fun hge => ?_)
        · obtain ⟨is, hi1, hi2, hel⟩ := hF k hlt
          have hidx := refIndex out k (by omega)
          rw [hi1] at hidx
          have hnx := hK (k + 1)
          rw [List.range_succ, List.map_append, List.map_cons, List.map_nil] at hnx
          have hal : ((List.range k).map F).length = k := by simp
          generalize (List.range k).map F = acc at *
          generalize F k = r at *
          cases k with
          | zero =>
            obtain rfl := List.eq_nil_of_length_eq_zero hal
            simp only [yad,zu,zI,yaH,zA,zh,zk,isCallV,zN,zO,zr,zK,zl,pureOp,apureO,aev,cv,cvc,zb,↓reduceIte,zf,zg,zd,Nat.reduceEqDiff,wV,wH1]
            refine call_meets (hidx) (by simp only [aev,cv,cvc,zT,zY,zj,zt,zm] <;> rfl) ?_; simp only [zu,zA,zq,zh,zk,isCallV,zN,zO,zr,zK,yaa,zl,pureOp,apureO,killT,aev,cv,cvc,zZ,zV,zX,yaj,zR,zP,zS,zU,zH,zB,zb,↓reduceIte,za,zc,zf,zg,zd,zz,ze,zF,and_true,and_self,reduceCtorEq,Nat.reduceEqDiff,zo]
            refine call_meets (hel) (by simp only [aev,cv,cvc,zT,zY,zj,zt,zm,wrap_in (x := ((0 : Nat) : Int) + 1) (by omega) (by omega)] <;> rfl) ?_; simp only [zu,zA,loopQ_n,blkQ_n,zq,zh,zk,isCallV,zr,yai,zK,yaa,zl,slot.eq_1,pureOp,apureO,astepO,ybg,ybh,appV,killT,aev,cv,cvc,binK,zZ,cellsA,cellOk,setAll,fillA,elemsA,elemsN,chunk,zV,isD_c,ybi,ybd,zS,zU,zH,zB,zb,↓reduceIte,za,zc,zD,zx,zf,zg,zW,zy,zd,zG,zp,zQ,yac,yaf,zn,ze,zF,Value.oneCell',true_and,and_self,Nat.reduceAdd,Nat.reduceMul,Nat.reduceLT,Nat.reduceLeDiff,Nat.reduceEqDiff,Nat.reduceMod,zE,zo,yaM,yaN,zw,zL,Ty.td3,Ty.td22,wrap_in (x := ((0 : Nat) : Int) + 1) (by omega) (by omega)]
            repeat refine ⟨by omega, ?_⟩
            refine hnx _ (by omega) (by omega) ?_ rfl (.weak (by simp [wH1]) (by simp [WeakH, wH1]) rfl rfl)
            simp only [zl,aev,cv,cvc,Weak,↓reduceIte,zz,ze,and_true,and_self,reduceCtorEq,Nat.reduceEqDiff,zE,wV]
            simp
          | succ k =>
            have hbt : List.take (k + 1) (List.map enc acc) = List.map enc acc := List.take_of_length_le (by simp; omega)
            simp only [yad,zu,zI,yaH,zA,zh,zk,isCallV,zN,zO,zr,zK,zl,pureOp,apureO,aev,cv,cvc,zb,↓reduceIte,zf,zg,zd,Nat.reduceEqDiff,wV,wH1]
            refine call_meets (hidx) (by simp only [aev,cv,cvc,zT,zY,zj,zt,zm] <;> rfl) ?_; simp only [zu,zA,zq,zh,zk,isCallV,zN,zO,zr,zK,yaa,zl,pureOp,apureO,killT,aev,cv,cvc,zZ,zV,zX,yaj,zR,zP,zS,zU,zH,zB,zb,↓reduceIte,za,zc,zf,zg,zd,zz,ze,zF,and_true,and_self,reduceCtorEq,Nat.reduceEqDiff,zo]
            refine call_meets (hel) (by simp only [aev,cv,cvc,zT,zY,zj,zt,zm,hal,hbt,wrap_in (x := ((k + 1 : Nat) : Int) + 1) (by omega) (by omega)] <;> rfl) ?_; simp only [zu,zA,loopQ_n,blkQ_n,zq,zh,zk,isCallV,zr,yai,zK,yaa,zl,slot.eq_1,pureOp,apureO,astepO,ybg,ybh,appV,killT,killB,killH,aev,cv,cvc,binK,zZ,cellsA,cellOk,setAll,fillA,elemsA,elemsN,rowE,chunk,zV,isD_c,ybi,ybd,zS,zU,zH,zB,yaX,yaE,ybe,yaU,yaQ,yaR,yaL,yaF,zb,↓reduceIte,za,zc,zD,zx,zf,zg,zW,zy,zd,zG,zM,zi,yal,zp,zQ,yac,yaf,zn,ze,zF,yae,Value.oneCell',true_and,and_self,reduceCtorEq,Nat.reduceAdd,Nat.reduceMul,Nat.reduceLT,Nat.reduceLeDiff,Nat.reduceEqDiff,Nat.reduceMod,zE,zo,yan,yah,or_false,yaM,yaN,zw,zL,yaZ,Ty.td3,Ty.td22,zJ,hal,hbt,wrap_in (x := ((k + 1 : Nat) : Int) + 1) (by omega) (by omega)]
            repeat refine ⟨by omega, ?_⟩
            refine hnx _ (by omega) (by omega) ?_ rfl (.trim (by simp [wH1]) rfl rfl)
            simp only [zl,aev,cv,cvc,Weak,↓reduceIte,zz,ze,and_true,and_self,reduceCtorEq,Nat.reduceEqDiff,wV]
            simp
        · obtain rfl : k = n.toNat := by omega
          have hal : ((List.range n.toNat).map F).length = n.toNat := by simp
          have hof := refOf el out ((List.range n.toNat).map F) (by omega) (by omega)
          unfold ofE at hof
          rw [if_pos hck] at hof
          clear hK hnz hF hck
          generalize (List.range n.toNat).map F = acc at *
          generalize n.toNat = nn at *
          cases nn with
          | zero =>
            obtain rfl := List.eq_nil_of_length_eq_zero hal
            simp only [zu,zI,yaI,zA,yaV,yaP,yaW,zh,zk,isCallV,zN,zO,zr,zK,zl,pureOp,apureO,aev,cv,cvc,zb,↓reduceIte,zf,zg,zd,Nat.reduceEqDiff,wV,wH1]
            refine call_meets (Meets.nil (pre := [S el, ints out]) (post := []) hof) (by simp only [aev,cv,cvc,zT,yao,zY,zj,zt,zm,zW,zy] <;> rfl) ?_
            simp only [zu,zI,yaw,zA,zq,zh,zk,isCallV,zr,yai,zK,yaT,yaa,zl,yax,pureOp,apureO,astepO,killT,aev,cv,cvc,zZ,yay,storeA,cellsA,cellOk,setAll,zV,zX,ybb,yaj,zR,zP,zS,yaG,zU,zH,zB,zT,yaz,yam,zY,zj,zt,zm,notExit,yar,yas,yak,yaK,zb,↓reduceIte,za,zc,zD,zx,zg,zd,zG,zM,zi,zp,zQ,zz,zn,yau,ze,zF,Value.oneCell',true_and,and_true,and_self,reduceCtorEq,Nat.reduceAdd,Nat.reduceLeDiff,Nat.reduceEqDiff,zE,zo,zw,zL,Ty.td29]
            try simp
          | succ k =>
            have hbt : List.take (k + 1) (List.map enc acc) = List.map enc acc := List.take_of_length_le (by simp; omega)
            simp only [zu,zI,yaI,zA,yaV,yaP,yaW,zh,zk,isCallV,zN,zO,zr,zK,zl,pureOp,apureO,aev,cv,cvc,zb,↓reduceIte,zf,zg,zd,Nat.reduceEqDiff,wV,wH1]
            refine call_meets (hof) (by simp only [aev,cv,cvc,elemsA,zT,zY,yaY,zj,zt,zm,↓reduceIte,za,zc,zi,ze,and_self,zw,zJ,hal,hbt] <;> rfl) ?_; simp only [zu,zI,yaw,zA,zq,zh,zk,isCallV,zr,yai,zK,yaT,yaa,zl,yax,pureOp,apureO,astepO,killT,killB,killH,aev,cv,cvc,zZ,yay,storeA,cellsA,cellOk,setAll,elemsA,dropL,zV,zX,ybb,yaj,zR,zP,zS,zU,yaO,zH,zB,zT,yaz,yam,zY,zj,zt,zm,yaX,yaE,yaU,yaQ,yaR,yaL,yaF,notExit,yar,yas,yak,yaK,zb,↓reduceIte,za,zc,zD,zx,zf,zg,zy,zd,zG,zM,zi,yal,zp,zQ,zz,zn,yau,ze,yae,Value.oneCell',true_and,and_true,and_self,reduceCtorEq,Nat.reduceAdd,Nat.reduceLeDiff,Nat.reduceEqDiff,zE,yag,yan,yah,or_false,yap,yat,zw,zL,Ty.td29,zJ,hal,hbt]
            try simp
end Go.Proofs.Ytbmmemglkjeogaa.S39
