/- Structure: the law of Apply. -/
import Derived.Test.YtbmmemglkjeogaaS40
import Derived.Test.YtbmmemglkjeogaaS33
namespace Go.Proofs.Ytbmmemglkjeogaa.S41
open Go Go.Proofs.Ytbmmemglkjeogaa.Eng Go.Proofs.Ytbmmemglkjeogaa Go.RowKit Go.Proofs.Ytbmmemglkjeogaa.A1 Go.Proofs.Ytbmmemglkjeogaa.A2 Go.Proofs.Ytbmmemglkjeogaa.A3 Go.Proofs.Ytbmmemglkjeogaa.A4 Go.Proofs.Ytbmmemglkjeogaa.A5 Go.Proofs.Ytbmmemglkjeogaa.S1 Go.Proofs.Ytbmmemglkjeogaa.S2 Go.Proofs.Ytbmmemglkjeogaa.S3 Go.Proofs.Ytbmmemglkjeogaa.S4 Go.Proofs.Ytbmmemglkjeogaa.S5 Go.Proofs.Ytbmmemglkjeogaa.S6 Go.Proofs.Ytbmmemglkjeogaa.S7 Go.Proofs.Ytbmmemglkjeogaa.S8 Go.Proofs.Ytbmmemglkjeogaa.S9 Go.Proofs.Ytbmmemglkjeogaa.S10 Go.Proofs.Ytbmmemglkjeogaa.S11 Go.Proofs.Ytbmmemglkjeogaa.S12 Go.Proofs.Ytbmmemglkjeogaa.S13 Go.Proofs.Ytbmmemglkjeogaa.S14 Go.Proofs.Ytbmmemglkjeogaa.S29 Go.Proofs.Ytbmmemglkjeogaa.S30 Go.Proofs.Ytbmmemglkjeogaa.S31 Go.Proofs.Ytbmmemglkjeogaa.S32 Go.Proofs.Ytbmmemglkjeogaa.S40
open _root_.List renaming getElem?_cons_zero → za, getElem?_cons_succ → zb, append_nil → zd, getElem?_toArray → ze, length_cons → zh, length_nil → zi, map_cons → zk, map_nil → zl, isEmpty_nil → zr, nil_append → zu, length_map → zw, cons_append → zJ, set_cons_zero → zW, take_succ_cons → zZ, set_cons_succ → yac, getElem?_map → yad, all_cons → yaj, all_nil → yan, isEmpty_cons → yao, take_nil → yap, not_mem_nil → yat, zipIdx_cons → yau, zipIdx_nil → yav, mem_cons → yaA
open _root_.Bool renaming false_eq_true → zc, and_self → zf, true_and → zj, or_true → zx, and_true → zG, not_true → yai, or_false → yak, and_eq_true → yas
open _root_.Go.Proofs.Ytbmmemglkjeogaa.Eng renaming awpOps_one → zg, awpOps_nil → zn, awpOp_is → zo, slot_is → zq, putK_is → zt, awp_reg → zy, awp_seq → zA, seqQ_n → zB, consO_some → zD, ownsL_cons → zE, ownsL_nil → zF, put_s → zH, toDL_cons → zI, awpOps_if → zK, toDL_nil → zL, callW_is → zM, callV_is → zN, loadA_p → zQ, guardA_ff → zR, elO_s → zS, flat_c → zT, ownsV_sl → zU, upd_s → zV, flatL_cons → zX, toD_c → zY, awpO_is → yaa, flatL_nil → yab, pickA_t → yae, toD_sl → yaf, awp_cond → yag, flat_tup → yah, pickA_f → yal, ownsV_c → yam, resA_nil → yaq, resA_tmp → yar, awp_skip → yaw, awp_ret → yax, retA_is → yay, elO_none → yaz
open _root_.Option renaming bind_some → zm, map_some → zz, isSome_some → zO
open _root_.Nat renaming zero_add → zp, le_refl → zP
set_option linter.unusedSimpArgs false
set_option linter.unusedVariables false
set_option linter.unusedSectionVars false
set_option maxRecDepth 100000

theorem ap_facts (e : ByteArray) (zs : List Int) (num : Int) (l : List Ar) : (apE e zs num l).1.2.1.length ≤ 1000000 ∧ (apE e zs num l).1.2.2.length ≤ 1000000 ∧ ((apE e zs num l).2.2 ≠ 0 ∨ ((apE e zs num l).2.2 = 0 ∧ resE e (l.map (·.1)) = ((apE e zs num l).1.1, true) ∧ dimsE e zs num (l.map (·.2.1)) = ((apE e zs num l).1.2.1, 0))) := by
  unfold apE
  cases ho : opOf e with
  | none => simp
  | some o =>
    simp only
    split
    · simp
    rename_i h1
    have hform : formB o zs.length l.length num = true := by simpa using h1
    have hf0 : formE e zs.length l.length num = 0 := by rw [form_is ho, if_pos hform]
    have hde : dimsE e zs num (l.map (·.2.1)) = rdE o zs num (l.map (·.2.1)) := by
      unfold dimsE
      rw [List.length_map, if_neg (by simpa using hf0), ho]
    split
    · simp
    split
    · simp
    rename_i h3
    split
    · rename_i h4; simp [h4]
    · rename_i h4
      have hrd : rdE o zs num (l.map (·.2.1)) = ((rdE o zs num (l.map (·.2.1))).1, 0) := Prod.ext rfl (by simpa using h4)
      have hlen := rd_ok hrd
      have hg := gather_len (f := elF o (szV zs num) l) hlen.1 hlen.2.2.2
      have hb := sizeE_bound (rdE o zs num (l.map (·.2.1))).1
      refine ⟨by show (rdE o zs num (l.map (·.2.1))).1.length ≤ _; omega, by show (gatherE _ _).length ≤ _; omega, Or.inr ⟨rfl, Prod.ext rfl (by simpa using h3), ?_⟩⟩
      rw [hde]
      exact hrd

def sV (k : Nat) : AV := match k with | 0 => .nils | _ + 1 => .own 5 1 k
def tV (k : Nat) : AV := match k with | 0 => .nils | _ + 1 => .own 7 1 k
def fH (zs : List Int) (num : Int) (A : Ar) (k : Nat) (E : List ByteArray) (L : List (List Int)) : Heap := match k with
  | 0 => [some (.var 24 [ints zs, I num]), some (.var 29 [S A.1, ints A.2.1, ints A.2.2]), some (.var 29 [S A.1, ints A.2.1, ints A.2.2])]
  | _ + 1 => [some (.var 24 [ints zs, I num]), some (.var 29 [S A.1, ints A.2.1, ints A.2.2]), some (.var 29 [S A.1, ints A.2.1, ints A.2.2]), none, none, some (.row 9 1 (E.map fun s => [S s])), none, some (.row 22 1 (L.map fun d => [ints d]))]

set_option maxHeartbeats 8000000 in
theorem law (op : ByteArray) (zs : List Int) (num : Int) (l : List Ar) (hl : l.length ≤ maxLen) : Meets Try.prog 3 [S op, S33.numV zs num, arrs l] (B true) := by
  have hw := awake
  have hfw := S33.few2_ l (by unfold maxLen at hl; omega)
  refine meets_of (X := true) Ty.mixed Try.func3 (by kernel_rfl) rfl (by kernel_rfl) (by simp) ?_; rw [Try.ntmps3, Try.results3]
  simp only [zy,zA,zB,zn,zg,zo,isCallV,zM,zN,zt,updK_is,zH,zV,zq,pureOp,apureO,astepO,killT,aev,cv,cvc,cellsA,cellOk,argT,zc,↓reduceIte,zi,zl,zu,zd,zj,true_and,reduceCtorEq,Nat.reduceAdd,zp]
  refine call_meets (hw) (by simp only [aev,cv,cvc,zL] <;> rfl) ?_; simp only [yaw,zy,zA,yag,zB,zn,zg,zK,zo,zt,zH,zV,zq,pureOp,apureO,killT,aev,cv,cvc,binK,zS,lenA,lenK,yieldA,condA_f,zT,zF,↓reduceIte,za,zb,ze,zm,zj,zx,yai,true_and,reduceCtorEq,zr,Ty.td9]
  by_cases c1 : (20 : Int) < op.size
  · simp only [zy,zA,yag,yax,zB,seqQ_r,zn,zg,zK,zo,zt,zH,zq,yay,pureOp,apureO,aev,cv,cvc,yieldA,guardA_no,guardA_ft,condA_t,yae,zY,notExit,yaq,yar,oneA_1,↓reduceIte,za,zb,ze,zm,zf,and_self,Nat.reduceEqDiff,decide_true,c1]
  by_cases c3 : (3 : Int) < zs.length
  · simp only [zy,zA,yag,yax,zB,seqQ_r,zn,zg,zK,zo,yaa,zt,zH,zq,yay,pureOp,apureO,aev,cv,cvc,binK,zS,yaz,lenA,lenK,zQ,yieldA,guardA_no,guardA_ft,zR,condA_t,yae,yal,zY,notExit,yaq,yar,oneA_1,zc,↓reduceIte,za,zb,zh,zi,ze,zm,zG,zj,zf,true_and,and_true,and_self,ne_eq,not_false_eq_true,reduceCtorEq,Nat.reduceAdd,Nat.reduceEqDiff,zp,zO,decide_true,decide_false,Ty.td22,Ty.td24,c1,c3,zw]
  cases c4 : fewB l with
  | false =>
    rw [c4] at hfw
    simp only [zg,zK,zo,isCallV,zM,zN,yaa,zt,zH,zq,pureOp,apureO,aev,cv,cvc,binK,zS,yaz,lenA,lenK,zQ,yieldA,zR,yal,zc,↓reduceIte,za,zb,zh,zi,zk,zl,zd,ze,zm,zj,true_and,ne_eq,not_false_eq_true,reduceCtorEq,Nat.reduceAdd,Nat.reduceEqDiff,zp,zO,decide_false,Ty.td22,Ty.td24,c1,c3,zw]
    refine call_meets (hfw) (by simp only [aev,cv,cvc,yaf,zD,zL,zI] <;> rfl) ?_; simp only [zy,zA,yag,yax,zB,seqQ_r,zn,zg,zK,zo,yaa,zt,zH,zV,zq,yay,pureOp,apureO,killT,aev,cv,cvc,yieldA,guardA_no,guardA_ft,zR,condA_t,yae,yal,zT,zU,zF,zE,zY,notExit,yaq,yar,oneA_1,↓reduceIte,za,zb,zd,ze,zm,zf,zx,Bool.not_false,and_self,Nat.reduceEqDiff,zr]
  | true =>
  rw [c4] at hfw
  have hsm : l.length ≤ 5 ∧ ∀ a ∈ l, a.2.1.length ≤ 8 := by
    simp only [fewB,yas,decide_eq_true_eq,List.all_eq_true] at c4
    refine ⟨by omega, fun a ha => ?_⟩
    have := c4.1 a ha
    simp only [fewE,yas,decide_eq_true_eq] at this
    omega
  have hss : ∀ a ∈ l, smallA a := fun a ha => by
    simp only [fewB,yas,decide_eq_true_eq,List.all_eq_true] at c4
    have := c4.1 a ha
    simp only [fewE,yas,decide_eq_true_eq] at this
    exact ⟨by omega, by omega⟩
  have fin : zs.length = 0 ∨ ∃ z0, zs[0]? = some z0 ∧ 0 < zs.length ∧ (¬ 400 < z0 ∨ (400 < z0 ∧ ¬ z0 ≤ 4096) ∨ (400 < z0 ∧ z0 ≤ 4096)) := by
    rcases Nat.eq_zero_or_pos zs.length with h | h
    · exact Or.inl h
    · exact Or.inr ⟨zs[0], List.getElem?_eq_getElem h, h, by omega⟩
  have hap := apply_fn op zs num l (by omega) hss
  have hrp := refApply_fn op zs num l (by omega) hss
  obtain ⟨hA1, hA2, hA3⟩ := ap_facts op zs num l
  have hEq := refEqual (apE op zs num l).1.1 (apE op zs num l).1.2.1 (apE op zs num l).1.2.2 (apE op zs num l).1.1 (apE op zs num l).1.2.1 (apE op zs num l).1.2.2 hA1 hA2 hA1 hA2
  have s2 := sameInts (apE op zs num l).1.2.1 (apE op zs num l).1.2.1 hA1 hA1
  rw [beq_self_eq_true] at s2
  rw [show eqA (apE op zs num l).1.1 (apE op zs num l).1.2.1 (apE op zs num l).1.2.2 (apE op zs num l).1.1 (apE op zs num l).1.2.1 (apE op zs num l).1.2.2 = true by unfold eqA; simp] at hEq
  generalize apE op zs num l = r at *
  obtain ⟨⟨ae0, ad0, ax0⟩, av, q⟩ := r
  simp only at hap hrp hA1 hA2 hA3 hEq s2
  simp only [zg,zK,zo,isCallV,zM,zN,yaa,zt,zH,zq,pureOp,apureO,aev,cv,cvc,binK,zS,yaz,lenA,lenK,zQ,yieldA,zR,yal,zc,↓reduceIte,za,zb,zh,zi,zk,zl,zd,ze,zm,zj,true_and,ne_eq,not_false_eq_true,reduceCtorEq,Nat.reduceAdd,Nat.reduceEqDiff,zp,zO,decide_false,Ty.td22,Ty.td24,c1,c3,zw]
  rcases fin with h | ⟨z0, h1, h2, h3 | ⟨h3, h4⟩ | ⟨h3, h4⟩⟩
  case' inl => refine call_meets (hfw) (by simp only [aev,cv,cvc,yaf,zD,zL,zI,show decide ((0 : Int) < (zs.length : Int)) = false from decide_eq_false (by omega)] <;> rfl) ?_; simp only [yaw,zy,zA,yag,zB,zn,zg,zK,zo,isCallV,zM,zN,yaa,zt,zH,zV,zq,pureOp,apureO,killT,aev,cv,cvc,binK,zS,yaz,lenA,lenK,zQ,yieldA,guardA_tf,zR,condA_f,yal,zT,zU,zF,zE,zc,↓reduceIte,za,zb,zh,zi,zk,zl,zd,ze,zm,zj,zx,yai,true_and,ne_eq,not_false_eq_true,reduceCtorEq,Nat.reduceAdd,Nat.reduceEqDiff,zp,zr,zO,Ty.td3,Ty.td22,Ty.td24,zw,show decide ((0 : Int) < (zs.length : Int)) = false from decide_eq_false (by omega)]
  case' inr.inl => refine call_meets (hfw) (by simp only [aev,cv,cvc,yaf,zD,zL,zI,show decide ((0 : Int) < (zs.length : Int)) = true from decide_eq_true (by omega),h1,h3] <;> rfl) ?_; simp only [yaw,zy,zA,yag,zB,zn,zg,zK,zo,isCallV,zM,zN,yaa,zt,zH,zV,zq,pureOp,apureO,killT,aev,cv,cvc,binK,zS,yaz,lenA,lenK,loadA_d,zQ,yieldA,guardA_tt,guardA_tf,zR,condA_f,yae,yal,zT,zU,zF,zE,zc,↓reduceIte,za,zb,zh,zi,zk,zl,zd,ze,zm,zz,zj,zx,yai,true_and,ne_eq,not_false_eq_true,reduceCtorEq,Nat.reduceAdd,Nat.reduceEqDiff,zp,zr,Int.reduceToNat,zO,decide_false,Int.le_refl,Ty.td3,Ty.td22,Ty.td24,zw,show decide ((0 : Int) < (zs.length : Int)) = true from decide_eq_true (by omega),yad,h1,h3]
  case' inr.inr.inl => refine call_meets (hfw) (by simp only [aev,cv,cvc,yaf,zD,zL,zI,show decide ((0 : Int) < (zs.length : Int)) = true from decide_eq_true (by omega),h1,h3,h4] <;> rfl) ?_; simp only [yaw,zy,zA,yag,zB,zn,zg,zK,zo,isCallV,zM,zN,yaa,zt,zH,zV,zq,pureOp,apureO,killT,aev,cv,cvc,binK,zS,yaz,lenA,lenK,loadA_d,zQ,yieldA,guardA_tt,zR,condA_f,yae,yal,zT,zU,zF,zE,zc,↓reduceIte,za,zb,zh,zi,zk,zl,zd,ze,zm,zz,zj,zx,yai,true_and,ne_eq,not_false_eq_true,reduceCtorEq,Nat.reduceAdd,Nat.reduceEqDiff,zp,zr,Int.reduceToNat,zO,decide_true,decide_false,Int.le_refl,Ty.td3,Ty.td22,Ty.td24,zw,show decide ((0 : Int) < (zs.length : Int)) = true from decide_eq_true (by omega),yad,h1,h3,h4]
  case inr.inr.inr => refine call_meets (hfw) (by simp only [aev,cv,cvc,yaf,zD,zL,zI,show decide ((0 : Int) < (zs.length : Int)) = true from decide_eq_true (by omega),h1,h3,h4] <;> rfl) ?_; simp only [zy,zA,yag,yax,zB,seqQ_r,zn,zg,zK,zo,yaa,zt,zH,zV,zq,yay,pureOp,apureO,killT,aev,cv,cvc,binK,zS,yaz,lenA,lenK,loadA_d,zQ,yieldA,guardA_tt,zR,condA_t,yae,yal,zT,zU,zF,zE,zY,notExit,yaq,yar,oneA_1,zc,↓reduceIte,za,zb,zh,zi,zd,ze,zm,zz,zG,zj,zf,zx,yai,true_and,and_true,and_self,ne_eq,not_false_eq_true,reduceCtorEq,Nat.reduceAdd,Nat.reduceEqDiff,zp,zr,Int.reduceToNat,zO,decide_true,Int.le_refl,Ty.td3,Ty.td22,Ty.td24,zw,show decide ((0 : Int) < (zs.length : Int)) = true from decide_eq_true (by omega),yad,h1,h3,h4]
  all_goals
    refine call_meets (hap) (by simp only [aev,cv,cvc,zY,yaf,zD,zL,zI] <;> rfl) ?_; simp only [zy,zA,zB,zn,zg,zo,isCallV,zM,zN,zt,updK_is,zH,upd_n,zV,zq,pureOp,apureO,astepO,killT,aev,cv,cvc,zS,zQ,storeA,cellsA,cellOk,setAll,zT,yah,flat_agg,flat_sl,yab,zX,yam,zU,zF,zE,zc,↓reduceIte,za,zb,zh,zi,zk,zl,zJ,zu,zd,zW,yac,yaj,yan,zG,zj,Bool.and_false,zf,zx,Value.oneCell',true_and,and_true,and_self,ne_eq,not_false_eq_true,reduceCtorEq,Nat.reduceAdd,Nat.reduceEqDiff,zp,zr,zP,Ty.td3,Ty.td22,Ty.td24,Ty.td29]
    refine call_meets (hrp) (by simp only [aev,cv,cvc,zY,yaf,zD,zL,zI] <;> rfl) ?_; simp only [zy,zA,zB,zn,zg,zo,isCallV,zM,zN,zt,updK_is,zH,upd_n,zV,zq,pureOp,apureO,astepO,killT,aev,cv,cvc,zS,zQ,storeA,cellsA,cellOk,setAll,zT,yah,flat_agg,flat_sl,yab,zX,yam,zU,zF,zE,zc,↓reduceIte,za,zb,zh,zi,zk,zl,zJ,zu,zd,zW,yac,zZ,List.drop_zero,yaj,yan,zG,zj,Bool.and_false,zf,zx,Value.oneCell',true_and,and_true,and_self,Nat.reduceAdd,Nat.reduceEqDiff,zp,zr,zP,yap,Ty.td29]
    refine call_meets (hEq) (by simp only [aev,cv,cvc,zY,toD_agg,yaf,zD,zL,zI,zz,show (av != av) = false by cases av <;> rfl,show (av ^^ av) = false by cases av <;> rfl,show (!(av == av)) = false by cases av <;> rfl] <;> rfl) ?_; simp only [yaw,zy,zA,yag,awp_block,awp_loop,zB,zn,zg,zK,zo,yaa,zt,zH,zV,zq,pureOp,apureO,killT,aev,cv,cvc,binK,zS,lenA,lenK,yieldA,zR,condA_f,yal,zT,yam,ownsV_agg,zU,zF,zE,↓reduceIte,za,zb,zd,ze,zm,zj,zx,yai,true_and,reduceCtorEq,Nat.reduceEqDiff,zr,zO,Ty.td4,Ty.td25,bne_self_eq_false,beq_self_eq_true,show (av != av) = false by cases av <;> rfl,show (av ^^ av) = false by cases av <;> rfl,show (!(av == av)) = false by cases av <;> rfl]
    refine loop_g (fun k : Nat => k ≤ l.length) (fun k => ⟨147, [(95, I k), (94, I l.length), (93, arrs l), (13, sV k), (14, tV k), (0, S op), (2, arrs l), (4, .ptr 0 0), (7, .ptr 1 0), (9, I q)], fH zs num (ae0, ad0, ax0) k ((l.take k).map (·.1)) ((l.take k).map (·.2.1))⟩) (fun k => l.length - k) 0 (Nat.zero_le _) (by simp only [zq,aev,cv,cvc,Weak,↓reduceIte,zG,zf,and_true,and_self,reduceCtorEq,Nat.reduceEqDiff,zw,sV,tV] <;> simp) rfl (.inl (by simp [fH])) ?_
    intro k hk K hK
    simp only at hK
    simp only [zy,zA,yag,zB,zn,zg,zo,zt,zH,zq,pureOp,apureO,aev,cv,cvc,binK,↓reduceIte,zj,true_and,Nat.reduceEqDiff]
    refine condA_dec (fun hlt => ?_) (fun hge => ?_)
    · have hlt' : k < l.length := by omega
      have hx : l[k]? = some l[k] := List.getElem?_eq_getElem hlt'
      have hnx := hK (k + 1)
      rw [List.take_succ_eq_append_getElem hlt', List.map_append, List.map_append] at hnx
      simp only [zk,zl] at hnx
      generalize l[k] = a at *
      obtain ⟨ae, ad, ax⟩ := a
      simp only at hnx
      have hlL : ((l.take k).map (·.2.1)).length = k := by simp; omega
      have hlE : ((l.take k).map (·.1)).length = k := by simp; omega
      generalize (l.take k).map (·.2.1) = L at *
      generalize (l.take k).map (·.1) = E at *
      cases k with
      | zero =>
        obtain rfl := List.eq_nil_of_length_eq_zero hlL
        obtain rfl := List.eq_nil_of_length_eq_zero hlE
        simp only [awp_regX,yaw,zy,zA,awp_block,zB,zn,zg,zo,isCallV,zt,updK_is,zH,upd_n,zV,zq,pureOp,apureO,astepO,killT,aev,cv,cvc,zS,loadA_d,storeA,cellsA,cellOk,setAll,Int.natCast_nonneg,zc,↓reduceIte,za,zb,zh,zi,zk,zl,zJ,zu,zW,yac,zz,zZ,yaj,yan,zj,zf,Value.oneCell',true_and,and_self,Nat.reduceAdd,Nat.reduceEqDiff,zp,Int.toNat_natCast,zP,yap,Ty.td25,Ty.td29,sV,tV,fH,yad,hx,encA]
        refine drawS_wild ?_; simp (config := {maxSteps := 2000000}) only [zy,zB,loopQ_n,blkQ_n,zn,zg,zo,isCallV,zt,zH,zq,slot.eq_1,pureOp,apureO,astepO,bsEnd_is,appA_own,appV,killT,killB,aev,cv,cvc,binK,zS,zQ,cellsA,cellOk,setAll,fillA,elemsA,elemsN,chunk,isD_c,isD_sl,isDL_nil,isDL_cons,killV_c,killV_sl,killL_nil,killL_cons,zc,↓reduceIte,za,zb,zh,zi,zk,zl,zJ,zu,zd,zW,Option.getD_some,zZ,List.drop_succ_cons,List.drop_zero,yaj,yan,zG,zj,zf,zx,Bool.false_or,yak,Value.oneCell',true_and,and_true,and_self,ne_eq,not_false_eq_true,reduceCtorEq,Nat.reduceAdd,Nat.reduceMul,Nat.reduceLT,Nat.reduceLeDiff,Nat.reduceEqDiff,Nat.reduceMod,zp,yaA,yat,or_false,false_or,List.range_succ,List.range_zero,decide_true,yau,yav,zP,List.drop_nil,yap,List.any_cons,List.any_nil,awpW_nil,awpW_one,wRun_is,wOp_is,keepK_is,stepK_is,contW_is,nextW_s,confs_nil,confs_cons,conf_is,meet_nil,meet_cons,opV_move,opV_assign,opV_load,opV_fieldAddr,opV_buildSlice,opV_builtin,tch_move,tch_assign,tch_load,tch_fieldAddr,tch_buildSlice,tch_app,rd_move,rd_assign,rd_load,rd_fieldAddr,rd_buildSlice,rd_app,namesV_c,namesV_nils,namesV_sl,namesV_ptr,namesV_own,namesV_agg,namesL_nil,namesL_cons,namesH_nil,namesH_cons,namesB_var,namesB_row,namesB_none,killO_s,allLt_is,maskH_is,mergeH_is,setH_is,newL_is,refsT,refsH,refsV,refsL,Bool.or_self,Nat.reduceBEq,Ty.td9,Ty.td22,Ty.td29,Ty.td34,Ty.td35,wrap_in (x := ((0 : Nat) : Int) + 1) (by omega) (by omega)]
        repeat refine ⟨by omega, ?_⟩
        refine ⟨by kernel_rfl, ?_⟩
        refine hnx _ hlt' (by omega) ?_ rfl (.weak (by simp [fH]) (by simp [WeakH, fH]) rfl rfl)
        simp only [zq,aev,cv,cvc,Weak,↓reduceIte,zG,zf,and_true,and_self,reduceCtorEq,Nat.reduceEqDiff,zp,sV,tV]
        simp
      | succ k =>
        have hb1 : List.take (k + 1) (L.map fun d => [ints d]) = L.map fun d => [ints d] := List.take_of_length_le (by simp; omega)
        have hb2 : List.take (k + 1) (E.map fun s => [S s]) = E.map fun s => [S s] := List.take_of_length_le (by simp; omega)
        simp only [awp_regX,yaw,zy,zA,awp_block,zB,zn,zg,zo,isCallV,zt,updK_is,zH,upd_n,zV,zq,pureOp,apureO,astepO,killT,aev,cv,cvc,zS,loadA_d,storeA,cellsA,cellOk,setAll,Int.natCast_nonneg,zc,↓reduceIte,za,zb,zh,zi,zk,zl,zJ,zu,zW,yac,zz,zZ,yaj,yan,zj,zf,Value.oneCell',true_and,and_self,Nat.reduceAdd,Nat.reduceEqDiff,zp,Int.toNat_natCast,zP,yap,Ty.td25,Ty.td29,sV,tV,fH,yad,hx,encA]
        refine drawS_wild ?_; simp (config := {maxSteps := 2000000}) only [zy,zB,loopQ_n,blkQ_n,zn,zg,zo,isCallV,zt,zH,zq,slot.eq_1,pureOp,apureO,astepO,bsEnd_is,appA_own,appV,killT,killB,killH,aev,cv,cvc,binK,zS,zQ,cellsA,cellOk,setAll,fillA,elemsA,elemsN,rowE,chunk,isD_c,isD_sl,isDL_nil,isDL_cons,killV_c,killV_junk,killV_agg,killV_sl,killV_own,killV_dptr,killV_ptr,killL_nil,killL_cons,zc,↓reduceIte,za,zb,zh,zi,zk,zl,zJ,zu,zd,zW,yac,zz,Option.map_none,Option.getD_some,zZ,List.drop_succ_cons,List.drop_zero,yaj,yan,zG,zj,zf,zx,Bool.true_or,Bool.false_or,yak,Value.oneCell',true_and,and_true,and_self,ne_eq,not_false_eq_true,reduceCtorEq,Nat.reduceAdd,Nat.reduceMul,Nat.reduceLT,Nat.reduceLeDiff,Nat.reduceEqDiff,Nat.reduceMod,zp,yaA,yat,or_false,false_or,List.range_succ,List.range_zero,decide_true,yau,yav,zP,List.drop_nil,yap,List.any_cons,List.any_nil,List.getElem?_nil,true_or,awpW_nil,awpW_one,wRun_is,wOp_is,keepK_is,stepK_is,contW_is,nextW_s,confs_nil,confs_cons,conf_is,meet_nil,meet_cons,opV_move,opV_assign,opV_load,opV_fieldAddr,opV_buildSlice,opV_builtin,tch_move,tch_assign,tch_load,tch_fieldAddr,tch_buildSlice,tch_app,rd_move,rd_assign,rd_load,rd_fieldAddr,rd_buildSlice,rd_app,namesV_c,namesV_sl,namesV_ptr,namesV_own,namesV_agg,namesL_nil,namesL_cons,namesH_nil,namesH_cons,namesB_var,namesB_row,namesB_none,killO_s,killO_n,allLt_is,maskH_is,mergeH_is,setH_is,newL_is,refsT,refsH,refsV,refsL,Bool.or_self,true_or,Nat.reduceBEq,List.getElem?_nil,Ty.td9,Ty.td22,Ty.td29,Ty.td34,Ty.td35,zw,hlL,hlE,hb1,hb2,wrap_in (x := ((k + 1 : Nat) : Int) + 1) (by omega) (by omega)]
        repeat refine ⟨by omega, ?_⟩
        refine ⟨by kernel_rfl, ?_⟩
        refine hnx _ hlt' (by omega) ?_ rfl (.weak (by simp [fH]) (by simp [WeakH, fH]) rfl rfl)
        simp only [zq,aev,cv,cvc,Weak,↓reduceIte,zG,zf,and_true,and_self,reduceCtorEq,Nat.reduceEqDiff,sV,tV]
        simp
    · have hk' : k = l.length := by omega
      subst hk'
      rw [List.take_length]
      clear hK hge hk
      have hlE : (l.map (·.1)).length = l.length := by simp
      have hlL : (l.map (·.2.1)).length = l.length := by simp
      have h3 := result_ op (l.map (·.1)) (by omega)
      have hd8 : ∀ d ∈ l.map (·.2.1), d.length ≤ 1000000 := fun d hd => by
        obtain ⟨a, ha, rfl⟩ := List.mem_map.1 hd
        have := hsm.2 a ha
        omega
      have h5 := dimsS_ op zs num (l.map (·.2.1)) (by omega) hd8
      have hl0 : l.length = 0 → l.map (·.1) = [] ∧ l.map (·.2.1) = [] := fun h => by rw [List.eq_nil_of_length_eq_zero h]; exact ⟨rfl, rfl⟩
      generalize resE op (l.map (·.1)) = r2 at *
      generalize dimsE op zs num (l.map (·.2.1)) = r3 at *
      generalize l.map (·.1) = E at *
      generalize l.map (·.2.1) = L at *
      obtain ⟨x2, y2⟩ := r2
      obtain ⟨x3, y3⟩ := r3
      try simp only at h3
      obtain ⟨n, hn⟩ : ∃ n, l.length = n := ⟨_, rfl⟩
      rcases hA3 with hq | ⟨rfl, hr, hd⟩
      · have hq' : (q != 0) = true := by simpa using hq
        cases n with
        | zero =>
          obtain ⟨rfl, rfl⟩ := hl0 hn
          simp only [zy,zA,awp_exit,zB,seqQ_e,loopQ_e,blkQ_e,zg,zo,isCallV,zM,zN,zt,zH,zq,pureOp,apureO,aev,cv,cvc,zc,↓reduceIte,zk,zl,zd,reduceCtorEq,Nat.reduceEqDiff,sV,tV,fH,hn]
          refine call_meets (Meets.nil (pre := [S op]) (post := []) h3) (by simp only [aev,cv,cvc,zY,toD_nils,zD,zL,zI,zJ,zu] <;> rfl) ?_
          simp only [zy,zA,zB,zn,zg,zo,isCallV,zM,zN,zt,zH,zV,zq,pureOp,apureO,killT,aev,cv,cvc,zS,zQ,zT,yah,yab,zX,yam,ownsV_nils,zF,zE,zc,↓reduceIte,za,zb,zh,zi,zk,zl,zd,zj,zf,zx,true_and,and_self,ne_eq,not_false_eq_true,reduceCtorEq,Nat.reduceAdd,Nat.reduceEqDiff,zp,zr,Ty.td3,Ty.td22,Ty.td24]
          refine call_meets (Meets.nil (pre := [S op, ints zs, I num]) (post := []) h5) (by simp only [aev,cv,cvc,zY,toD_nils,yaf,zD,zL,zI,zJ,zu] <;> rfl) ?_
          simp only [zy,zA,yax,zB,zn,zg,zK,zo,zt,zH,zV,zq,yay,pureOp,apureO,killT,aev,cv,cvc,binK,zS,yieldA,guardA_no,guardA_ft,yae,zT,yah,flat_sl,yab,zX,yam,ownsV_nils,zU,zF,zE,zY,notExit,yaq,yar,oneA_1,↓reduceIte,za,zb,zd,ze,zm,zG,zf,zx,and_true,and_self,reduceCtorEq,Nat.reduceEqDiff,zr,hq']
        | succ k =>
          rw [hn] at hlE hlL
          have hb1 : List.take (k + 1) (L.map fun d => [ints d]) = L.map fun d => [ints d] := List.take_of_length_le (by simp; omega)
          have hb2 : List.take (k + 1) (E.map fun s => [S s]) = E.map fun s => [S s] := List.take_of_length_le (by simp; omega)
          simp only [zy,zA,awp_exit,zB,seqQ_e,loopQ_e,blkQ_e,zg,zo,isCallV,zM,zN,zt,zH,zq,pureOp,apureO,aev,cv,cvc,zc,↓reduceIte,zk,zl,zd,reduceCtorEq,Nat.reduceEqDiff,sV,tV,fH,hn]
          refine call_meets (h3) (by simp only [aev,cv,cvc,elemsA,zY,toD_own,zD,zL,zI,↓reduceIte,za,zb,zz,zf,and_self,zP,zw,hlE,hb2] <;> rfl) ?_; simp only [zy,zA,zB,zn,zg,zo,isCallV,zM,zN,zt,zH,zV,zq,pureOp,apureO,killT,aev,cv,cvc,zS,zQ,zT,yah,yab,zX,yam,ownsV_own,zF,zE,zc,↓reduceIte,za,zb,zh,zi,zk,zl,zu,zd,zj,zf,yak,true_and,and_self,ne_eq,not_false_eq_true,reduceCtorEq,Nat.reduceAdd,Nat.reduceEqDiff,zp,yao,or_false,Ty.td3,Ty.td22,Ty.td24,hlE,hb2]
          refine call_meets (h5) (by simp only [aev,cv,cvc,elemsA,zY,yaf,toD_own,zD,zL,zI,↓reduceIte,za,zb,zz,zf,and_self,zP,zw,hlL,hb1,hq'] <;> rfl) ?_; simp only [zy,zA,yax,zB,zn,zg,zK,zo,zt,zH,zV,zq,yay,pureOp,apureO,killT,killB,killH,aev,cv,cvc,binK,zS,yieldA,guardA_no,guardA_ft,yae,elemsA,dropL,zT,yah,flat_sl,yab,zX,yam,zU,ownsV_own,zF,zE,zY,killV_c,killV_tup,killV_sl,killV_own,killV_ptr,killL_nil,killL_cons,notExit,yaq,yar,oneA_1,zc,↓reduceIte,za,zb,zk,zl,zu,zd,ze,zm,zz,Option.map_none,zG,zf,yak,and_true,and_self,reduceCtorEq,Nat.reduceAdd,Nat.reduceEqDiff,zp,yao,yaA,yat,or_false,yau,yav,zP,zw,hlL,hb1,hq']
      · obtain ⟨rfl, rfl⟩ := Prod.mk.inj hr
        obtain ⟨rfl, rfl⟩ := Prod.mk.inj hd
        cases n with
        | zero =>
          obtain ⟨rfl, rfl⟩ := hl0 hn
          simp only [zy,zA,awp_exit,zB,seqQ_e,loopQ_e,blkQ_e,zg,zo,isCallV,zM,zN,zt,zH,zq,pureOp,apureO,aev,cv,cvc,zc,↓reduceIte,zk,zl,zd,reduceCtorEq,Nat.reduceEqDiff,sV,tV,fH,hn]
          refine call_meets (Meets.nil (pre := [S op]) (post := []) h3) (by simp only [aev,cv,cvc,zY,toD_nils,zD,zL,zI,zJ,zu] <;> rfl) ?_
          simp only [zy,zA,zB,zn,zg,zo,isCallV,zM,zN,zt,zH,zV,zq,pureOp,apureO,killT,aev,cv,cvc,zS,zQ,zT,yah,yab,zX,yam,ownsV_nils,zF,zE,zc,↓reduceIte,za,zb,zh,zi,zk,zl,zd,zj,zf,zx,true_and,and_self,ne_eq,not_false_eq_true,reduceCtorEq,Nat.reduceAdd,Nat.reduceEqDiff,zp,zr,Ty.td3,Ty.td22,Ty.td24]
          refine call_meets (Meets.nil (pre := [S op, ints zs, I num]) (post := []) h5) (by simp only [aev,cv,cvc,zY,toD_nils,yaf,zD,zL,zI,zJ,zu] <;> rfl) ?_
          simp only [zy,zA,zB,zn,zg,zK,zo,isCallV,zM,zN,yaa,zt,zH,zV,zq,pureOp,apureO,killT,aev,cv,cvc,binK,zS,zQ,yieldA,guardA_tt,zR,yae,zT,yah,flat_sl,yab,zX,yam,ownsV_nils,zU,zF,zE,zc,↓reduceIte,za,zb,zh,zi,zk,zl,zd,ze,zm,zG,zj,zf,zx,true_and,and_true,and_self,ne_eq,not_false_eq_true,reduceCtorEq,Nat.reduceAdd,Nat.reduceEqDiff,zp,zr,Ty.td9,Ty.td22,Ty.td29,bne_self_eq_false,beq_self_eq_true]
          refine call_meets (s2) (by simp only [aev,cv,cvc,yaf,zD,zL,zI] <;> rfl) ?_; simp only [yax,zB,zn,zg,zK,zo,yaa,zt,zH,zV,zq,yay,pureOp,apureO,killT,aev,cv,cvc,yieldA,zR,yae,yal,zT,zU,zF,zE,zY,notExit,yaq,yar,oneA_1,↓reduceIte,za,zb,zd,ze,zm,zf,zx,and_self,Nat.reduceEqDiff,zr]
          try simp
        | succ k =>
          rw [hn] at hlE hlL
          have hb1 : List.take (k + 1) (L.map fun d => [ints d]) = L.map fun d => [ints d] := List.take_of_length_le (by simp; omega)
          have hb2 : List.take (k + 1) (E.map fun s => [S s]) = E.map fun s => [S s] := List.take_of_length_le (by simp; omega)
          simp only [zy,zA,awp_exit,zB,seqQ_e,loopQ_e,blkQ_e,zg,zo,isCallV,zM,zN,zt,zH,zq,pureOp,apureO,aev,cv,cvc,zc,↓reduceIte,zk,zl,zd,reduceCtorEq,Nat.reduceEqDiff,sV,tV,fH,hn]
          refine call_meets (h3) (by simp only [aev,cv,cvc,elemsA,zY,toD_own,zD,zL,zI,↓reduceIte,za,zb,zz,zf,and_self,zP,zw,hlE,hb2] <;> rfl) ?_; simp only [zy,zA,zB,zn,zg,zo,isCallV,zM,zN,zt,zH,zV,zq,pureOp,apureO,killT,aev,cv,cvc,zS,zQ,zT,yah,yab,zX,yam,ownsV_own,zF,zE,zc,↓reduceIte,za,zb,zh,zi,zk,zl,zu,zd,zj,zf,yak,true_and,and_self,ne_eq,not_false_eq_true,reduceCtorEq,Nat.reduceAdd,Nat.reduceEqDiff,zp,yao,or_false,Ty.td3,Ty.td22,Ty.td24,hlE,hb2]
          refine call_meets (h5) (by simp only [aev,cv,cvc,elemsA,zY,yaf,toD_own,zD,zL,zI,↓reduceIte,za,zb,zz,zf,and_self,zP,zw,hlL,hb1] <;> rfl) ?_; simp only [zy,zA,zB,zn,zg,zK,zo,isCallV,zM,zN,yaa,zt,zH,zV,zq,pureOp,apureO,killT,killB,killH,aev,cv,cvc,binK,zS,zQ,yieldA,guardA_tt,zR,yae,elemsA,dropL,zT,yah,flat_sl,yab,zX,yam,zU,ownsV_own,zF,zE,killV_c,killV_tup,killV_sl,killV_own,killV_ptr,killL_nil,killL_cons,zc,↓reduceIte,za,zb,zh,zi,zk,zl,zu,zd,ze,zm,zz,Option.map_none,zG,zj,zf,yak,true_and,and_true,and_self,ne_eq,not_false_eq_true,reduceCtorEq,Nat.reduceAdd,Nat.reduceEqDiff,zp,yao,yaA,yat,or_false,yau,yav,zP,Ty.td9,Ty.td22,Ty.td29,zw,hlL,hb1,bne_self_eq_false,beq_self_eq_true]
          refine call_meets (s2) (by simp only [aev,cv,cvc,yaf,zD,zL,zI] <;> rfl) ?_; simp only [yax,zB,zn,zg,zK,zo,yaa,zt,zH,zV,zq,yay,pureOp,apureO,killT,aev,cv,cvc,yieldA,zR,yae,yal,zT,zU,zF,zE,zY,notExit,yaq,yar,oneA_1,↓reduceIte,za,zb,zd,ze,zm,zf,zx,and_self,Nat.reduceEqDiff,zr]
          try simp
theorem end_ (W : World) {v1 v2 : Value} (op : ByteArray) (_ : op.size ≤ maxLen) (zs : List Int) (num : Int) (h1 : RepD (fun b => b < W.heap.size) W (S33.numV zs num) v1) (_ : zs.length ≤ maxLen) (_ : ∀ z ∈ zs, (Lit.int .i64 z).wf = true) (_ : (Lit.int .i64 num).wf = true) (l : List Ar) (h2 : RepD (fun b => b < W.heap.size) W (arrs l) v2) (hl : l.length ≤ maxLen) :
    Calls Try.prog 3 #[.string op, v1, v2] W fun e w' => e = .returned (.bool true) ∧ Below W.heap.size W w' :=
  law_of (law op zs num l hl) (vs := [.string op, v1, v2]) ⟨_, _, rfl, rfl, _, _, rfl, h1, _, _, rfl, h2, rfl⟩
end Go.Proofs.Ytbmmemglkjeogaa.S41
