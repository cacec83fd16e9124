/- Structure: the law of forms. -/
import Derived.Test.YtbmmemglkjeogaaS32
import Derived.Test.YtbmmemglkjeogaaEngIn
namespace Go.Proofs.Ytbmmemglkjeogaa
set_option linter.unusedVariables false
set_option linter.unusedSectionVars false
open Go.RowKit Go.WideShapes Go.ChangeShapes Go.Proofs.Ytbmmemglkjeogaa.Eng
section
variable {H : Type} {enc : TypeId × Value → H} {P : Program}
theorem in_sn {t e : TypeId} {f0 f1 : Field} {k k2 : IntKind} {w : World} {r : Reach} {b0 : Nat} {v : Value} {d : DataW H} {ps : List MemPlace} (ht : P.underlying t = some (.struct #[f0, f1])) (o0 : f0.offset = 0) (o1 : f1.offset = 1)
    (h0 : P.underlying f0.type = some (.slice e)) (h1 : P.underlying f1.type = some (.int k2)) (he : P.underlying e = some (.int k)) (hc : P.cellsOf e = 1) (c0 : P.cellsOf f0.type = 1) (c1 : P.cellsOf f1.type = 1) (hcs : P.cellsOf t = 2)
    (hval : Value.okWide P w r b0 t v) (h : DataW.Trod enc P w 0 (fun _ => true) true t v d ps) :
    ∃ (A : List Int) (n : Int), RepD (fun b => b < w.heap.size) w (.agg [.sl false 1 (A.map fun z => [.c (.int k z)]), .c (.int k2 n)]) v ∧ A.length ≤ maxLen ∧ (∀ z ∈ A, (Lit.int k z).wf = true) ∧ (Lit.int k2 n).wf = true := by
  obtain ⟨cs, rfl, hs⟩ := okWide_struct ht hval
  obtain ⟨fuel, hf⟩ := h
  obtain ⟨xs, n, _, _, hl, hlen, hff⟩ := DataW.trod_struct ht hf
  have q0 := hff 0 f0 rfl
  have q1 := hff 1 f1 rfl
  rw [o0, c0] at q0
  rw [o1, c1] at q1
  match xs, hlen with
  | [y0, y1], _ =>
  obtain ⟨A, v0, e0, r0, t0, l0, w0⟩ := in_ints h0 he hc q0
  obtain ⟨s, e1, w1⟩ := in_int h1 q1
  refine ⟨A, s, ⟨cs, rfl, ?_, ?_⟩, l0, w0, w1⟩
  all_goals
    obtain ⟨l⟩ := cs
    rw [hcs] at hs
    simp only [Value.cells] at e0 e1
    match l, hs with
    | [a, b], _ =>
      simp at e0 e1
      subst e0 e1
      first
        | exact ⟨_, _, rfl, r0, _, _, rfl, rfl, rfl⟩
        | (intro u hu; simp at hu; rcases hu with rfl | rfl <;> first | exact t0 | rfl)
end
end Go.Proofs.Ytbmmemglkjeogaa
namespace Go.Proofs.Ytbmmemglkjeogaa.S33
open Go Go.Proofs.Ytbmmemglkjeogaa.Eng Go.Proofs.Ytbmmemglkjeogaa Go.RowKit Go.Proofs.Ytbmmemglkjeogaa.A1 Go.Proofs.Ytbmmemglkjeogaa.A2 Go.Proofs.Ytbmmemglkjeogaa.A3 Go.Proofs.Ytbmmemglkjeogaa.A4 Go.Proofs.Ytbmmemglkjeogaa.A5 Go.Proofs.Ytbmmemglkjeogaa.S1 Go.Proofs.Ytbmmemglkjeogaa.S2 Go.Proofs.Ytbmmemglkjeogaa.S3 Go.Proofs.Ytbmmemglkjeogaa.S4 Go.Proofs.Ytbmmemglkjeogaa.S5 Go.Proofs.Ytbmmemglkjeogaa.S6 Go.Proofs.Ytbmmemglkjeogaa.S7 Go.Proofs.Ytbmmemglkjeogaa.S8 Go.Proofs.Ytbmmemglkjeogaa.S9 Go.Proofs.Ytbmmemglkjeogaa.S13 Go.Proofs.Ytbmmemglkjeogaa.S14 Go.Proofs.Ytbmmemglkjeogaa.S29 Go.Proofs.Ytbmmemglkjeogaa.S30 Go.Proofs.Ytbmmemglkjeogaa.S31 Go.Proofs.Ytbmmemglkjeogaa.S32
open _root_.List renaming getElem?_cons_zero → za, getElem?_cons_succ → zb, append_nil → zd, isEmpty_nil → zg, map_nil → zi, map_cons → zl, getElem?_toArray → zm, length_map → zw, length_nil → zI, nil_append → zJ, length_cons → zK, cons_append → zS, take_succ_cons → zW, set_cons_zero → zZ, set_cons_succ → yaf, getElem?_map → yah, all_cons → yak, take_nil → yal, all_nil → yap, drop_zero → yau
open _root_.Bool renaming false_eq_true → zc, true_and → zf, and_self → zh, or_true → zo, and_true → zD, or_false → yar, not_true → yax
open _root_.Go.Proofs.Ytbmmemglkjeogaa.Eng renaming awpOps_one → ze, awpOp_is → zj, slot_is → zk, awpOps_nil → zn, putK_is → zp, ownsL_nil → zr, consO_some → zt, ownsL_cons → zu, awp_reg → zx, callW_is → zy, callV_is → zz, toDL_nil → zA, put_s → zB, toDL_cons → zE, awp_seq → zF, seqQ_n → zG, upd_s → zM, awpOps_if → zO, elO_s → zP, flat_c → zQ, toD_c → zR, ownsV_c → zT, flatL_cons → zU, awpO_is → zV, ownsV_sl → zX, flatL_nil → yaa, guardA_tt → yab, awp_cond → yac, flat_tup → yad, toD_sl → yai, flat_sl → yaj, loadA_p → yam, awp_block → yan, awp_skip → yao, pickA_t → yaq, resA_nil → yas, resA_tmp → yat, awp_ret → yav, retA_is → yaw
open _root_.Option renaming bind_some → zq, isSome_some → zH, map_some → zN
open _root_.Nat renaming zero_add → zL, le_refl → zY
open _root_.Int renaming natCast_nonneg → yae, toNat_natCast → yag
set_option linter.unusedSimpArgs false
set_option linter.unusedVariables false
set_option maxRecDepth 100000

abbrev numV (zs : List Int) (num : Int) : AV := .agg [ints zs, I num]
theorem few2_ (l : List Ar) (hl : l.length ≤ 9223372036854775807) : Meets Try.prog 10 [arrs l] (B (fewB l)) := by
  unfold fewB
  refine meets_of (X := false) Ty.mixed Try.func10 (by kernel_rfl) rfl (by kernel_rfl) (by simp) ?_; rw [Try.ntmps10, Try.results10]
  simp only [zx,zF,yan,awp_loop,zG,zn,ze,zj,zp,zB,zk,pureOp,apureO,aev,cv,cvc,zP,lenA,lenK,argT,↓reduceIte,zf,true_and,reduceCtorEq,zH,Ty.td25,zw]
  refine loop_g (fun k : Nat => k ≤ l.length ∧ l.all (fun a => fewE a.1 a.2.1 a.2.2 60) = (l.drop k).all (fun a => fewE a.1 a.2.1 a.2.2 60)) (fun k => ⟨18, [(7, I k), (6, I l.length), (5, arrs l), (0, arrs l)], []⟩) (fun k => l.length - k) 0 ⟨Nat.zero_le _, rfl⟩ (by simp only [zk,aev,cv,cvc,Weak,↓reduceIte,zD,zh,and_true,and_self,reduceCtorEq,Nat.reduceEqDiff] <;> simp) rfl (.inl rfl) ?_
  rintro k ⟨hk, hi⟩ K hK
  simp only [zx,zF,yac,zG,zn,ze,zj,zp,zB,zk,pureOp,apureO,aev,cv,cvc,binK,↓reduceIte,zf,true_and,Nat.reduceEqDiff]
  refine condA_dec (fun hlt => ?_) (fun hge => ?_)
  · have hlt' : k < l.length := by omega
    have hx : l[k]? = some l[k] := List.getElem?_eq_getElem hlt'
    rw [List.drop_eq_getElem_cons hlt', List.all_cons] at hi
    generalize l[k] = a at *
    obtain ⟨ae, ad, ax⟩ := a
    have hf := few ae ad ax 60
    simp only at hi
    cases hb : fewE ae ad ax 60 with
    | false =>
      rw [hb] at hf hi
      simp only [yao,zx,zF,yan,zG,zn,ze,zj,isCallV,zy,zz,zp,updK_is,zB,upd_n,zM,zk,pureOp,apureO,astepO,killT,aev,cv,cvc,zP,loadA_d,yam,storeA,cellsA,cellOk,setAll,yae,zc,↓reduceIte,za,zK,zI,zl,zi,zJ,zd,zZ,yaf,zN,zW,yau,yak,yap,zf,zh,Value.oneCell',true_and,and_self,Nat.reduceAdd,Nat.reduceEqDiff,zL,yag,zY,yal,Ty.td25,Ty.td29,yah,hx,encA]
      refine call_meets (hf) (by simp only [aev,cv,cvc,zR,toD_agg,yai,zt,zA,zE,zN] <;> rfl) ?_; simp only [zx,zF,yac,yav,zG,seqQ_r,loopQ_r,blkQ_r,zn,ze,zj,zp,zB,zM,zk,yaw,pureOp,apureO,killT,aev,cv,cvc,condA_t,zQ,zT,ownsV_agg,zX,zr,zu,zR,notExit,yas,yat,oneA_1,↓reduceIte,zd,zf,zo,Bool.not_false,true_and,zg]
      simp [hi]
    | true =>
      rw [hb] at hf hi
      simp only [yao,zx,zF,yan,zG,zn,ze,zj,isCallV,zy,zz,zp,updK_is,zB,upd_n,zM,zk,pureOp,apureO,astepO,killT,aev,cv,cvc,zP,loadA_d,yam,storeA,cellsA,cellOk,setAll,yae,zc,↓reduceIte,za,zK,zI,zl,zi,zJ,zd,zZ,yaf,zN,zW,yau,yak,yap,zf,zh,Value.oneCell',true_and,and_self,Nat.reduceAdd,Nat.reduceEqDiff,zL,yag,zY,yal,Ty.td25,Ty.td29,yah,hx,encA]
      refine call_meets (hf) (by simp only [aev,cv,cvc,zR,toD_agg,yai,zt,zA,zE,zN,wrap_in (x := (k : Int) + 1) (by omega) (by omega)] <;> rfl) ?_; simp only [yao,zx,yac,zG,loopQ_n,blkQ_n,zn,ze,zj,zp,zB,zM,zk,pureOp,apureO,killT,aev,cv,cvc,binK,condA_f,zQ,zT,ownsV_agg,zX,zr,zu,↓reduceIte,zd,zf,zo,yax,true_and,Nat.reduceEqDiff,zg,wrap_in (x := (k : Int) + 1) (by omega) (by omega)]
      refine hK (k + 1) _ ⟨hlt', by simpa using hi⟩ (by omega) ?_ rfl (.weak (by simp) (by simp [WeakH]) rfl rfl)
      simp only [zk,aev,cv,cvc,Weak,↓reduceIte,zD,zh,and_true,and_self,reduceCtorEq,Nat.reduceEqDiff]
      simp
  · have hk' : k = l.length := by omega
    subst hk'
    rw [List.drop_length] at hi
    simp only [zx,zF,awp_exit,yav,zG,seqQ_e,loopQ_e,blkQ_e,zn,ze,zj,zp,zB,zk,yaw,pureOp,apureO,aev,cv,cvc,binK,zP,lenA,lenK,zR,notExit,yas,yat,oneA_1,↓reduceIte,zf,true_and,reduceCtorEq,zH,Ty.td25,zw]
    simp [hi]


theorem sameT_ (l : List ByteArray) (hl : l.length ≤ 1000000) : Meets Try.prog 23 [strs l, strs l] (B true) := by
  refine meets_of (X := false) Ty.mixed Try.func23 (by kernel_rfl) rfl (by kernel_rfl) (by simp) ?_; rw [Try.ntmps23, Try.results23]
  simp only [yao,zx,zF,yac,yan,awp_loop,zG,zn,ze,zj,zp,zB,zk,pureOp,apureO,aev,cv,cvc,binK,zP,lenA,lenK,condA_f,argT,↓reduceIte,zf,true_and,reduceCtorEq,Nat.reduceEqDiff,zL,zH,Ty.td34,zw,bne_self_eq_false]
  refine loop_k (fun k : Nat => k ≤ l.length) (fun k => ⟨26, [(5, I k), (0, strs l), (1, strs l)], []⟩) (fun k => l.length - k) 0 (Nat.zero_le _) (by simp only [zk,aev,cv,cvc,Weak,↓reduceIte,zD,zh,and_true,and_self,reduceCtorEq,Nat.reduceEqDiff] <;> simp) rfl rfl ?_
  intro k hk K hK
  simp only [zx,zF,yac,zG,zn,ze,zj,zp,zB,zk,pureOp,apureO,aev,cv,cvc,binK,zP,lenA,lenK,↓reduceIte,zf,true_and,reduceCtorEq,Nat.reduceEqDiff,zH,Ty.td34,zw]
  refine condA_dec (fun hlt => ?_) (fun hge => ?_)
  · have hlt' : k < l.length := by omega
    have hx : l[k]? = some l[k] := List.getElem?_eq_getElem hlt'
    generalize l[k] = x at *
    simp only [yao,zx,awp_regD,zF,yac,yan,zG,loopQ_n,blkQ_n,zn,ze,awpOpsD_nil,awpOpsD_one,zj,awpOpD_is,lastOnly_nil,lastOnly_cons,zp,zB,zk,keepOp,pureOp,apureO,aev,cv,cvc,binK,zP,loadA_d,condA_f,yae,zc,↓reduceIte,za,zN,zf,yax,true_and,reduceCtorEq,Nat.reduceEqDiff,yag,Ty.td9,Ty.td34,yah,hx,beq_self_eq_true,wrap_in (x := (k : Int) + 1) (by omega) (by omega)]
    refine hK (k + 1) _ hlt' (by omega) ?_ rfl rfl
    simp only [zk,aev,cv,cvc,Weak,↓reduceIte,zD,zh,and_true,and_self,reduceCtorEq,Nat.reduceEqDiff]
    simp
  · simp only [zx,zF,awp_exit,yav,zG,seqQ_e,loopQ_e,blkQ_e,zn,ze,zj,zp,zB,zk,yaw,pureOp,apureO,aev,cv,cvc,zR,notExit,yas,yat,oneA_1,↓reduceIte,zh,and_self]
    try simp
theorem rks_few (e : ByteArray) (n : Nat) (hn : n ≤ 4096) : (rksE e n).1.length ≤ 1000000 := by
  unfold rksE
  split
  · simp; omega
  · split
    · simp
    · rename_i o _
      split
      · simp
      · cases o <;> simp [rk]
theorem dims_few (e : ByteArray) (zs : List Int) (num : Int) (L : List (List Int)) : (dimsE e zs num L).1.length ≤ 1000000 := by
  unfold dimsE
  split
  · simp
  · split
    · simp
    · rename_i o _
      have := dm_len o (kOf o zs num L.length) L.flatten
      unfold rdE
      split
      · simp
      split
      · simp
      split
      · simp
      split
      · simp
      · show (dm o (kOf o zs num L.length) L.flatten).1.length ≤ _
        omega
theorem refDimsE_ (e : ByteArray) (zs : List Int) (num : Int) (L : List (List Int)) (hl : L.length ≤ 4096) (hd : ∀ d ∈ L, d.length ≤ 1000000) : Meets Try.prog 20 [S e, ints zs, I num, lists L] (twoI (dimsE e zs num L)) := by
  unfold dimsE
  by_cases hf : formE e zs.length L.length num = 0
  · obtain ⟨o, ho, hfb⟩ := form_op hf
    rw [if_neg (by simpa using hf), ho]
    exact refDims_ ho hfb hl hd
  · rw [if_pos hf]
    exact refDims_no hl hf

def sV (k : Nat) : AV := match k with | 0 => .nils | _ + 1 => .own 3 1 k
def tV (k : Nat) : AV := match k with | 0 => .nils | _ + 1 => .own 5 1 k
def fH (zs : List Int) (num : Int) (k : Nat) (E : List ByteArray) (L : List (List Int)) : Heap := match k with
  | 0 => [some (.var 24 [ints zs, I num])]
  | _ + 1 => [some (.var 24 [ints zs, I num]), none, none, some (.row 9 1 (E.map fun s => [S s])), none, some (.row 22 1 (L.map fun d => [ints d]))]

set_option maxHeartbeats 4000000 in
theorem law (op : ByteArray) (zs : List Int) (num : Int) (l : List Ar) (hl : l.length ≤ maxLen) : Meets Try.prog 4 [S op, numV zs num, arrs l] (B true) := by
  have hw := awake
  have hfw := few2_ l (by unfold maxLen at hl; omega)
  refine meets_of (X := true) Ty.mixed Try.func4 (by kernel_rfl) rfl (by kernel_rfl) (by simp) ?_; rw [Try.ntmps4, Try.results4]
  simp only [zx,zF,zG,zn,ze,zj,isCallV,zy,zz,zp,updK_is,zB,zM,zk,pureOp,apureO,astepO,killT,aev,cv,cvc,cellsA,cellOk,argT,zc,↓reduceIte,zI,zi,zJ,zd,zf,true_and,reduceCtorEq,Nat.reduceAdd,zL]
  refine call_meets (hw) (by simp only [aev,cv,cvc,zA] <;> rfl) ?_; simp only [yao,zx,zF,yac,zG,zn,ze,zO,zj,zp,zB,zM,zk,pureOp,apureO,killT,aev,cv,cvc,binK,zP,lenA,lenK,yieldA,condA_f,zQ,zr,↓reduceIte,za,zb,zm,zq,zf,zo,yax,true_and,reduceCtorEq,zg,Ty.td9]
  by_cases c1 : (20 : Int) < op.size
  · simp only [zx,zF,yac,yav,zG,seqQ_r,zn,ze,zO,zj,zp,zB,zk,yaw,pureOp,apureO,aev,cv,cvc,yieldA,guardA_ft,condA_t,yaq,zR,notExit,yas,yat,oneA_1,↓reduceIte,za,zb,zm,zq,zh,and_self,Nat.reduceEqDiff,decide_true,c1]
  by_cases c3 : (3 : Int) < zs.length
  · simp only [zx,zF,yac,yav,zG,seqQ_r,zn,ze,zO,zj,zV,zp,zB,zk,yaw,pureOp,apureO,aev,cv,cvc,binK,zP,elO_none,lenA,lenK,yam,yieldA,guardA_ft,guardA_ff,condA_t,yaq,pickA_f,zR,notExit,yas,yat,oneA_1,zc,↓reduceIte,za,zb,zK,zI,zm,zq,zD,zf,zh,true_and,and_true,and_self,ne_eq,not_false_eq_true,reduceCtorEq,Nat.reduceAdd,Nat.reduceEqDiff,zL,zH,decide_true,decide_false,Ty.td22,Ty.td24,c1,c3,zw]
  cases c4 : fewB l with
  | false =>
    rw [c4] at hfw
    simp only [ze,zO,zj,isCallV,zy,zz,zV,zp,zB,zk,pureOp,apureO,aev,cv,cvc,binK,zP,elO_none,lenA,lenK,yam,yieldA,guardA_ff,pickA_f,zc,↓reduceIte,za,zb,zK,zI,zl,zi,zd,zm,zq,zf,true_and,ne_eq,not_false_eq_true,reduceCtorEq,Nat.reduceAdd,Nat.reduceEqDiff,zL,zH,decide_false,Ty.td22,Ty.td24,c1,c3,zw]
    refine call_meets (hfw) (by simp only [aev,cv,cvc,yai,zt,zA,zE] <;> rfl) ?_; simp only [zx,zF,yac,yav,zG,seqQ_r,zn,ze,zO,zj,zV,zp,zB,zM,zk,yaw,pureOp,apureO,killT,aev,cv,cvc,yieldA,guardA_ff,condA_t,pickA_f,zQ,zX,zr,zu,zR,notExit,yas,yat,oneA_1,↓reduceIte,za,zb,zd,zm,zq,zh,zo,Bool.not_false,and_self,Nat.reduceEqDiff,zg]
  | true =>
  rw [c4] at hfw
  have hsm : l.length ≤ 5 ∧ ∀ a ∈ l, a.2.1.length ≤ 8 := by
    simp only [fewB,Bool.and_eq_true,decide_eq_true_eq,List.all_eq_true] at c4
    refine ⟨by omega, fun a ha => ?_⟩
    have := c4.1 a ha
    simp only [fewE,Bool.and_eq_true,decide_eq_true_eq] at this
    omega
  simp only [ze,zO,zj,isCallV,zy,zz,zV,zp,zB,zk,pureOp,apureO,aev,cv,cvc,binK,zP,elO_none,lenA,lenK,yam,yieldA,guardA_ff,pickA_f,zc,↓reduceIte,za,zb,zK,zI,zl,zi,zd,zm,zq,zf,true_and,ne_eq,not_false_eq_true,reduceCtorEq,Nat.reduceAdd,Nat.reduceEqDiff,zL,zH,decide_false,Ty.td22,Ty.td24,c1,c3,zw]
  refine call_meets (hfw) (by simp only [aev,cv,cvc,yai,zt,zA,zE] <;> rfl) ?_; simp only [yao,zx,zF,yac,yan,awp_loop,zG,zn,ze,zO,zj,zV,zp,zB,zM,zk,pureOp,apureO,killT,aev,cv,cvc,zP,lenA,lenK,yieldA,guardA_ff,condA_f,pickA_f,zQ,zX,zr,zu,↓reduceIte,za,zb,zd,zm,zq,zf,zo,yax,true_and,reduceCtorEq,Nat.reduceEqDiff,zg,zH,Ty.td25,zw]
  refine loop_g (fun k : Nat => k ≤ l.length) (fun k => ⟨142, [(41, I k), (40, I l.length), (39, arrs l), (7, sV k), (8, tV k), (0, S op), (2, arrs l), (4, .ptr 0 0)], fH zs num k ((l.take k).map (·.1)) ((l.take k).map (·.2.1))⟩) (fun k => l.length - k) 0 (Nat.zero_le _) (by simp only [zk,aev,cv,cvc,Weak,↓reduceIte,zD,zh,and_true,and_self,reduceCtorEq,Nat.reduceEqDiff,sV,tV] <;> simp) rfl (.inl (by simp [fH])) ?_
  intro k hk K hK
  simp only at hK
  simp only [zx,zF,yac,zG,zn,ze,zj,zp,zB,zk,pureOp,apureO,aev,cv,cvc,binK,↓reduceIte,zf,true_and,Nat.reduceEqDiff]
  refine condA_dec (fun hlt => ?_) (fun hge => ?_)
  · have hlt' : k < l.length := by omega
    have hx : l[k]? = some l[k] := List.getElem?_eq_getElem hlt'
    have hnx := hK (k + 1)
    rw [List.take_succ_eq_append_getElem hlt', List.map_append, List.map_append] at hnx
    simp only [zl,zi] at hnx
    generalize l[k] = a at *
    obtain ⟨ae, ad, ax⟩ := a
    simp only at hnx
    have hlL : ((l.take k).map (·.2.1)).length = k := by simp; omega
    have hlE : ((l.take k).map (·.1)).length = k := by simp; omega
    generalize (l.take k).map (·.2.1) = L at *
    generalize (l.take k).map (·.1) = E at *
    cases k with
    | zero =>
      obtain rfl := List.eq_nil_of_length_eq_zero hlL
      obtain rfl := List.eq_nil_of_length_eq_zero hlE
      simp only [awp_regX,yao,zx,zF,yan,zG,zn,ze,zj,isCallV,zp,updK_is,zB,upd_n,zM,zk,pureOp,apureO,astepO,killT,aev,cv,cvc,zP,loadA_d,storeA,cellsA,cellOk,setAll,yae,zc,↓reduceIte,za,zb,zK,zI,zl,zi,zS,zJ,zZ,yaf,zN,zW,yak,yap,zf,zh,Value.oneCell',true_and,and_self,Nat.reduceAdd,Nat.reduceEqDiff,zL,yag,zY,yal,Ty.td25,Ty.td29,sV,tV,fH,yah,hx,encA]
      refine drawS_wild ?_; simp (config := {maxSteps := 2000000}) only [zx,zG,loopQ_n,blkQ_n,zn,ze,zj,isCallV,zp,zB,zk,slot.eq_1,pureOp,apureO,astepO,bsEnd_is,appA_own,appV,killT,killB,aev,cv,cvc,binK,zP,yam,cellsA,cellOk,setAll,fillA,elemsA,elemsN,chunk,isD_c,isD_sl,isDL_nil,isDL_cons,killV_c,killV_sl,killL_nil,killL_cons,zc,↓reduceIte,za,zb,zK,zI,zl,zi,zS,zJ,zd,zZ,Option.getD_some,zW,List.drop_succ_cons,yau,yak,yap,zD,zf,zh,zo,Bool.false_or,yar,Value.oneCell',true_and,and_true,and_self,ne_eq,not_false_eq_true,reduceCtorEq,Nat.reduceAdd,Nat.reduceMul,Nat.reduceLT,Nat.reduceLeDiff,Nat.reduceEqDiff,Nat.reduceMod,zL,List.mem_cons,List.not_mem_nil,or_false,false_or,List.range_succ,List.range_zero,decide_true,List.zipIdx_cons,List.zipIdx_nil,zY,List.drop_nil,yal,List.any_cons,List.any_nil,awpW_nil,awpW_one,wRun_is,wOp_is,keepK_is,stepK_is,contW_is,nextW_s,confs_nil,confs_cons,conf_is,meet_nil,meet_cons,opV_move,opV_assign,opV_load,opV_fieldAddr,opV_buildSlice,opV_builtin,tch_move,tch_assign,tch_load,tch_fieldAddr,tch_buildSlice,tch_app,rd_move,rd_assign,rd_load,rd_fieldAddr,rd_buildSlice,rd_app,namesV_c,namesV_nils,namesV_sl,namesV_ptr,namesV_own,namesV_agg,namesL_nil,namesL_cons,namesH_nil,namesH_cons,namesB_var,namesB_row,namesB_none,killO_s,allLt_is,maskH_is,mergeH_is,setH_is,newL_is,refsT,refsH,refsV,refsL,Bool.or_self,Nat.reduceBEq,Ty.td9,Ty.td22,Ty.td29,Ty.td34,Ty.td35,wrap_in (x := ((0 : Nat) : Int) + 1) (by omega) (by omega)]
      repeat refine ⟨by omega, ?_⟩
      refine ⟨by kernel_rfl, ?_⟩
      refine hnx _ hlt' (by omega) ?_ rfl (.weak (by simp [fH]) (by simp [WeakH, fH]) rfl rfl)
      simp only [zk,aev,cv,cvc,Weak,↓reduceIte,zD,zh,and_true,and_self,reduceCtorEq,Nat.reduceEqDiff,zL,sV,tV]
      simp
    | succ k =>
      have hb1 : List.take (k + 1) (L.map fun d => [ints d]) = L.map fun d => [ints d] := List.take_of_length_le (by simp; omega)
      have hb2 : List.take (k + 1) (E.map fun s => [S s]) = E.map fun s => [S s] := List.take_of_length_le (by simp; omega)
      simp only [awp_regX,yao,zx,zF,yan,zG,zn,ze,zj,isCallV,zp,updK_is,zB,upd_n,zM,zk,pureOp,apureO,astepO,killT,aev,cv,cvc,zP,loadA_d,storeA,cellsA,cellOk,setAll,yae,zc,↓reduceIte,za,zb,zK,zI,zl,zi,zS,zJ,zZ,yaf,zN,zW,yak,yap,zf,zh,Value.oneCell',true_and,and_self,Nat.reduceAdd,Nat.reduceEqDiff,zL,yag,zY,yal,Ty.td25,Ty.td29,sV,tV,fH,yah,hx,encA]
      refine drawS_wild ?_; simp (config := {maxSteps := 2000000}) only [zx,zG,loopQ_n,blkQ_n,zn,ze,zj,isCallV,zp,zB,zk,slot.eq_1,pureOp,apureO,astepO,bsEnd_is,appA_own,appV,killT,killB,killH,aev,cv,cvc,binK,zP,yam,cellsA,cellOk,setAll,fillA,elemsA,elemsN,rowE,chunk,isD_c,isD_sl,isDL_nil,isDL_cons,killV_c,killV_junk,killV_agg,killV_sl,killV_own,killV_dptr,killV_ptr,killL_nil,killL_cons,zc,↓reduceIte,za,zb,zK,zI,zl,zi,zS,zJ,zd,zZ,yaf,zN,Option.map_none,Option.getD_some,zW,List.drop_succ_cons,yau,yak,yap,zD,zf,zh,zo,Bool.true_or,Bool.false_or,yar,Value.oneCell',true_and,and_true,and_self,ne_eq,not_false_eq_true,reduceCtorEq,Nat.reduceAdd,Nat.reduceMul,Nat.reduceLT,Nat.reduceLeDiff,Nat.reduceEqDiff,Nat.reduceMod,zL,List.mem_cons,List.not_mem_nil,or_false,false_or,List.range_succ,List.range_zero,decide_true,List.zipIdx_cons,List.zipIdx_nil,zY,List.drop_nil,yal,List.any_cons,List.any_nil,List.getElem?_nil,true_or,awpW_nil,awpW_one,wRun_is,wOp_is,keepK_is,stepK_is,contW_is,nextW_s,confs_nil,confs_cons,conf_is,meet_nil,meet_cons,opV_move,opV_assign,opV_load,opV_fieldAddr,opV_buildSlice,opV_builtin,tch_move,tch_assign,tch_load,tch_fieldAddr,tch_buildSlice,tch_app,rd_move,rd_assign,rd_load,rd_fieldAddr,rd_buildSlice,rd_app,namesV_c,namesV_sl,namesV_ptr,namesV_own,namesV_agg,namesL_nil,namesL_cons,namesH_nil,namesH_cons,namesB_var,namesB_row,namesB_none,killO_s,killO_n,allLt_is,maskH_is,mergeH_is,setH_is,newL_is,refsT,refsH,refsV,refsL,Bool.or_self,true_or,Nat.reduceBEq,List.getElem?_nil,Ty.td9,Ty.td22,Ty.td29,Ty.td34,Ty.td35,zw,hlL,hlE,hb1,hb2,wrap_in (x := ((k + 1 : Nat) : Int) + 1) (by omega) (by omega)]
      repeat refine ⟨by omega, ?_⟩
      refine ⟨by kernel_rfl, ?_⟩
      refine hnx _ hlt' (by omega) ?_ rfl (.weak (by simp [fH]) (by simp [WeakH, fH]) rfl rfl)
      simp only [zk,aev,cv,cvc,Weak,↓reduceIte,zD,zh,and_true,and_self,reduceCtorEq,Nat.reduceEqDiff,sV,tV]
      simp
  · have hk' : k = l.length := by omega
    subst hk'
    rw [List.take_length]
    clear hK hge hk
    have hlE : (l.map (·.1)).length = l.length := by simp
    have hlL : (l.map (·.2.1)).length = l.length := by simp
    have h1 := ranks_ op l.length
    have h2 := refRanks_ op l.length (by omega) (by omega)
    have h3 := result_ op (l.map (·.1)) (by omega)
    have h4 := refResult_ op (l.map (·.1)) (by omega)
    have hd8 : ∀ d ∈ l.map (·.2.1), d.length ≤ 1000000 := fun d hd => by
      obtain ⟨a, ha, rfl⟩ := List.mem_map.1 hd
      have := hsm.2 a ha
      omega
    have h5 := dimsS_ op zs num (l.map (·.2.1)) (by omega) hd8
    have h6 := refDimsE_ op zs num (l.map (·.2.1)) (by omega) hd8
    have h7 := is_ op
    have h8 := refIs_ op
    have h9 := ops_
    have h10 := refOps_
    have h11 := sameT_ opsL (by decide)
    have s1 := sameInts (rksE op l.length).1 (rksE op l.length).1 (rks_few op l.length (by omega)) (rks_few op l.length (by omega))
    have s2 := sameInts (dimsE op zs num (l.map (·.2.1))).1 (dimsE op zs num (l.map (·.2.1))).1 (dims_few ..) (dims_few ..)
    rw [beq_self_eq_true] at s1 s2
    generalize rksE op l.length = r1 at *
    generalize resE op (l.map (·.1)) = r2 at *
    generalize dimsE op zs num (l.map (·.2.1)) = r3 at *
    generalize (opOf op).isSome = r4 at *
    generalize opsL = OL at *
    have hl0 : l.length = 0 → l.map (·.1) = [] ∧ l.map (·.2.1) = [] := fun h => by rw [List.eq_nil_of_length_eq_zero h]; exact ⟨rfl, rfl⟩
    generalize l.map (·.1) = E at *
    generalize l.map (·.2.1) = L at *
    obtain ⟨x1, y1⟩ := r1
    obtain ⟨x2, y2⟩ := r2
    obtain ⟨x3, y3⟩ := r3
    simp only at h1 h2 h3 h4 h5 h6 s1 s2
    obtain ⟨n, hn⟩ : ∃ n, l.length = n := ⟨_, rfl⟩
    cases n with
    | zero =>
      obtain ⟨rfl, rfl⟩ := hl0 hn
      rw [hn] at h1 h2
      simp only [zx,zF,awp_exit,zG,seqQ_e,loopQ_e,blkQ_e,ze,zj,isCallV,zy,zz,zp,zB,zk,pureOp,apureO,aev,cv,cvc,zP,lenA,lenK,zc,↓reduceIte,zl,zi,zd,zf,true_and,reduceCtorEq,Nat.reduceEqDiff,zH,Ty.td25,sV,tV,fH,hn,zw]
      refine call_meets (h1) (by simp only [aev,cv,cvc,zR,zt,zA,zE,hn] <;> rfl) ?_; simp only [zx,zF,zG,zn,ze,zj,isCallV,zy,zz,zp,zB,zM,zk,pureOp,apureO,killT,aev,cv,cvc,zP,lenA,lenK,zQ,yad,yaj,yaa,zU,zT,zr,zu,zc,↓reduceIte,za,zb,zl,zi,zd,zD,zf,zh,zo,true_and,and_true,and_self,reduceCtorEq,Nat.reduceEqDiff,zg,zH,Ty.td25,zw,hn]
      refine call_meets (h2) (by simp only [aev,cv,cvc,zR,zt,zA,zE] <;> rfl) ?_; simp only [zx,zF,zG,zn,ze,zj,isCallV,zy,zz,zp,zB,zM,zk,pureOp,apureO,killT,aev,cv,cvc,zP,zQ,yad,yaj,yaa,zU,zT,zr,zu,zc,↓reduceIte,za,zb,zl,zi,zd,zD,zh,zo,and_true,and_self,reduceCtorEq,Nat.reduceEqDiff,zg]
      refine call_meets (Meets.nil (pre := [S op]) (post := []) h3) (by simp only [aev,cv,cvc,zR,toD_nils,zt,zA,zE,zS,zJ] <;> rfl) ?_
      simp only [zx,zF,zG,zn,ze,zj,isCallV,zy,zz,zp,zB,zM,zk,pureOp,apureO,killT,aev,cv,cvc,zP,zQ,yad,yaa,zU,zT,ownsV_nils,zr,zu,zc,↓reduceIte,za,zb,zl,zi,zd,zh,zo,and_self,reduceCtorEq,Nat.reduceEqDiff,zg]
      refine call_meets (Meets.nil (pre := [S op]) (post := []) h4) (by simp only [aev,cv,cvc,zR,toD_nils,zt,zA,zE,zS,zJ] <;> rfl) ?_
      simp only [zx,zF,zG,zn,ze,zj,isCallV,zy,zz,zp,zB,zM,zk,pureOp,apureO,killT,aev,cv,cvc,zP,yam,zQ,yad,yaa,zU,zT,ownsV_nils,zr,zu,zc,↓reduceIte,za,zb,zK,zI,zl,zi,zd,zf,zh,zo,true_and,and_self,ne_eq,not_false_eq_true,reduceCtorEq,Nat.reduceAdd,Nat.reduceEqDiff,zL,zg,Ty.td3,Ty.td22,Ty.td24]
      refine call_meets (Meets.nil (pre := [S op, ints zs, I num]) (post := []) h5) (by simp only [aev,cv,cvc,zR,toD_nils,yai,zt,zA,zE,zS,zJ] <;> rfl) ?_
      simp only [zx,zF,zG,zn,ze,zj,isCallV,zy,zz,zp,zB,zM,zk,pureOp,apureO,killT,aev,cv,cvc,zP,yam,zQ,yad,yaj,yaa,zU,zT,ownsV_nils,zX,zr,zu,zc,↓reduceIte,za,zb,zK,zI,zl,zi,zd,zD,zf,zh,zo,true_and,and_true,and_self,ne_eq,not_false_eq_true,reduceCtorEq,Nat.reduceAdd,Nat.reduceEqDiff,zL,zg,Ty.td3,Ty.td22,Ty.td24]
      refine call_meets (Meets.nil (pre := [S op, ints zs, I num]) (post := []) h6) (by simp only [aev,cv,cvc,zR,toD_nils,yai,zt,zA,zE,zS,zJ] <;> rfl) ?_
      simp only [zx,zF,zG,zn,ze,zj,isCallV,zy,zz,zp,zB,zM,zk,pureOp,apureO,killT,aev,cv,cvc,zP,zQ,yad,yaj,yaa,zU,zT,ownsV_nils,zX,zr,zu,zc,↓reduceIte,za,zb,zl,zi,zd,zD,zh,zo,and_true,and_self,Nat.reduceEqDiff,zg]
      refine call_meets (s1) (by simp only [aev,cv,cvc,yai,zt,zA,zE] <;> rfl) ?_; simp only [ze,zO,zj,isCallV,zy,zz,zV,zp,zB,zM,zk,pureOp,apureO,killT,aev,cv,cvc,binK,zP,yieldA,yab,yaq,zQ,zX,zr,zu,zc,↓reduceIte,za,zb,zl,zi,zd,zm,zq,zf,zo,true_and,Nat.reduceEqDiff,zg,Ty.td4,beq_self_eq_true]
      refine call_meets (s2) (by simp only [aev,cv,cvc,yai,zt,zA,zE] <;> rfl) ?_; simp only [ze,zO,zj,isCallV,zy,zz,zV,zp,zB,zM,zk,pureOp,apureO,killT,aev,cv,cvc,binK,yieldA,yab,yaq,zQ,zX,zr,zu,zc,↓reduceIte,za,zb,zl,zi,zd,zm,zq,zf,zo,true_and,reduceCtorEq,Nat.reduceEqDiff,zg,beq_self_eq_true]
      refine call_meets (h7) (by simp only [aev,cv,cvc,zR,zt,zA,zE] <;> rfl) ?_; simp only [zO,zj,isCallV,zy,zz,zV,zp,zB,zM,zk,pureOp,apureO,killT,aev,cv,cvc,yieldA,yab,zQ,zT,zr,zu,zc,↓reduceIte,za,zb,zl,zi,zd,zm,zq,zo,reduceCtorEq,Nat.reduceEqDiff,zg]
      refine call_meets (h8) (by simp only [aev,cv,cvc,zR,zt,zA,zE] <;> rfl) ?_; simp only [ze,zO,zj,isCallV,zy,zz,zV,zp,zB,zM,zk,pureOp,apureO,killT,aev,cv,cvc,binK,zP,yieldA,yab,yaq,zQ,zT,zr,zu,zc,↓reduceIte,za,zb,zi,zd,zm,zq,zf,zo,true_and,Nat.reduceEqDiff,zg,Ty.td4,beq_self_eq_true]
      refine call_meets (h9) (by simp only [aev,cv,cvc,zA] <;> rfl) ?_; simp only [zO,zj,isCallV,zy,zz,zV,zM,zk,pureOp,killT,aev,cv,cvc,yieldA,yab,yaj,zr,zc,↓reduceIte,za,zb,zi,zd,zm,zq,zo,Nat.reduceEqDiff,zg]
      refine call_meets (h10) (by simp only [aev,cv,cvc,zA] <;> rfl) ?_; simp only [zO,zj,isCallV,zy,zz,zV,zM,zk,pureOp,killT,aev,cv,cvc,yieldA,yab,yaj,zr,zc,↓reduceIte,za,zb,zl,zi,zd,zm,zq,zo,Nat.reduceEqDiff,zg]
      refine call_meets (h11) (by simp only [aev,cv,cvc,yai,zt,zA,zE] <;> rfl) ?_; simp only [yav,zG,zn,ze,zj,zp,zB,zM,zk,yaw,pureOp,apureO,killT,aev,cv,cvc,yaq,zQ,zX,zr,zu,zR,notExit,yas,yat,oneA_1,↓reduceIte,zd,zh,zo,and_self,Nat.reduceEqDiff,zg]
      try simp
    | succ k =>
      rw [hn] at h1 h2 hlE hlL
      have hb1 : List.take (k + 1) (L.map fun d => [ints d]) = L.map fun d => [ints d] := List.take_of_length_le (by simp; omega)
      have hb2 : List.take (k + 1) (E.map fun s => [S s]) = E.map fun s => [S s] := List.take_of_length_le (by simp; omega)
      simp only [zx,zF,awp_exit,zG,seqQ_e,loopQ_e,blkQ_e,ze,zj,isCallV,zy,zz,zp,zB,zk,pureOp,apureO,aev,cv,cvc,zP,lenA,lenK,zc,↓reduceIte,zl,zi,zd,zf,true_and,reduceCtorEq,Nat.reduceEqDiff,zH,Ty.td25,sV,tV,fH,hn,zw]
      refine call_meets (h1) (by simp only [aev,cv,cvc,zR,zt,zA,zE,hn] <;> rfl) ?_; simp only [zx,zF,zG,zn,ze,zj,isCallV,zy,zz,zp,zB,zM,zk,pureOp,apureO,killT,aev,cv,cvc,zP,lenA,lenK,zQ,yad,yaj,yaa,zU,zT,zr,zu,zc,↓reduceIte,za,zb,zl,zi,zd,zD,zf,zh,zo,true_and,and_true,and_self,reduceCtorEq,Nat.reduceEqDiff,zg,zH,Ty.td25,zw,hn]
      refine call_meets (h2) (by simp only [aev,cv,cvc,zR,zt,zA,zE] <;> rfl) ?_; simp only [zx,zF,zG,zn,ze,zj,isCallV,zy,zz,zp,zB,zM,zk,pureOp,apureO,killT,aev,cv,cvc,zP,zQ,yad,yaj,yaa,zU,zT,zr,zu,zc,↓reduceIte,za,zb,zl,zi,zd,zD,zh,zo,and_true,and_self,reduceCtorEq,Nat.reduceEqDiff,zg]
      refine call_meets (h3) (by simp only [aev,cv,cvc,elemsA,zR,toD_own,zt,zA,zE,↓reduceIte,za,zb,zN,zh,and_self,zY,zw,hlE,hb2] <;> rfl) ?_; simp only [zx,zF,zG,zn,ze,zj,isCallV,zy,zz,zp,zB,zM,zk,pureOp,apureO,killT,aev,cv,cvc,zP,zQ,yad,yaa,zU,zT,ownsV_own,zr,zu,zc,↓reduceIte,za,zb,zl,zi,zJ,zd,zh,yar,and_self,reduceCtorEq,Nat.reduceEqDiff,List.isEmpty_cons,or_false,hlE,hb2]
      refine call_meets (h4) (by simp only [aev,cv,cvc,elemsA,zR,toD_own,zt,zA,zE,↓reduceIte,za,zb,zN,zh,and_self,zY,zw,hlE,hb2] <;> rfl) ?_; simp only [zx,zF,zG,zn,ze,zj,isCallV,zy,zz,zp,zB,zM,zk,pureOp,apureO,killT,aev,cv,cvc,zP,yam,zQ,yad,yaa,zU,zT,ownsV_own,zr,zu,zc,↓reduceIte,za,zb,zK,zI,zl,zi,zJ,zd,zf,zh,yar,true_and,and_self,ne_eq,not_false_eq_true,reduceCtorEq,Nat.reduceAdd,Nat.reduceEqDiff,zL,List.isEmpty_cons,or_false,Ty.td3,Ty.td22,Ty.td24,hlE,hb2]
      refine call_meets (h5) (by simp only [aev,cv,cvc,elemsA,zR,yai,toD_own,zt,zA,zE,↓reduceIte,za,zb,zN,zh,and_self,zY,zw,hlL,hb1] <;> rfl) ?_; simp only [zx,zF,zG,zn,ze,zj,isCallV,zy,zz,zp,zB,zM,zk,pureOp,apureO,killT,killB,killH,aev,cv,cvc,zP,yam,elemsA,dropL,zQ,yad,yaj,yaa,zU,zT,zX,ownsV_own,zr,zu,killV_c,killV_tup,killV_sl,killV_own,killV_ptr,killL_nil,killL_cons,zc,↓reduceIte,za,zb,zK,zI,zl,zi,zJ,zd,zN,Option.map_none,zD,zf,zh,yar,true_and,and_true,and_self,ne_eq,not_false_eq_true,reduceCtorEq,Nat.reduceAdd,Nat.reduceEqDiff,zL,List.isEmpty_cons,List.mem_cons,List.not_mem_nil,or_false,List.zipIdx_cons,List.zipIdx_nil,zY,Ty.td3,Ty.td22,Ty.td24,zw,hlL,hb1]
      refine call_meets (h6) (by simp only [aev,cv,cvc,zR,yai,zt,zA,zE,hlL,hb1] <;> rfl) ?_; simp only [zx,zF,zG,zn,ze,zj,isCallV,zy,zz,zp,zB,zM,zk,pureOp,apureO,killT,aev,cv,cvc,zP,zQ,yad,yaj,yaa,zU,zT,zX,zr,zu,zc,↓reduceIte,za,zb,zl,zi,zd,zD,zh,zo,and_true,and_self,Nat.reduceEqDiff,zg,hlL,hb1]
      refine call_meets (s1) (by simp only [aev,cv,cvc,yai,zt,zA,zE] <;> rfl) ?_; simp only [ze,zO,zj,isCallV,zy,zz,zV,zp,zB,zM,zk,pureOp,apureO,killT,aev,cv,cvc,binK,zP,yieldA,yab,yaq,zQ,zX,zr,zu,zc,↓reduceIte,za,zb,zl,zi,zd,zm,zq,zf,zo,true_and,Nat.reduceEqDiff,zg,Ty.td4,beq_self_eq_true]
      refine call_meets (s2) (by simp only [aev,cv,cvc,yai,zt,zA,zE] <;> rfl) ?_; simp only [ze,zO,zj,isCallV,zy,zz,zV,zp,zB,zM,zk,pureOp,apureO,killT,aev,cv,cvc,binK,yieldA,yab,yaq,zQ,zX,zr,zu,zc,↓reduceIte,za,zb,zl,zi,zd,zm,zq,zf,zo,true_and,reduceCtorEq,Nat.reduceEqDiff,zg,beq_self_eq_true]
      refine call_meets (h7) (by simp only [aev,cv,cvc,zR,zt,zA,zE] <;> rfl) ?_; simp only [zO,zj,isCallV,zy,zz,zV,zp,zB,zM,zk,pureOp,apureO,killT,aev,cv,cvc,yieldA,yab,zQ,zT,zr,zu,zc,↓reduceIte,za,zb,zl,zi,zd,zm,zq,zo,reduceCtorEq,Nat.reduceEqDiff,zg]
      refine call_meets (h8) (by simp only [aev,cv,cvc,zR,zt,zA,zE] <;> rfl) ?_; simp only [ze,zO,zj,isCallV,zy,zz,zV,zp,zB,zM,zk,pureOp,apureO,killT,aev,cv,cvc,binK,zP,yieldA,yab,yaq,zQ,zT,zr,zu,zc,↓reduceIte,za,zb,zi,zd,zm,zq,zf,zo,true_and,Nat.reduceEqDiff,zg,Ty.td4,beq_self_eq_true]
      refine call_meets (h9) (by simp only [aev,cv,cvc,zA] <;> rfl) ?_; simp only [zO,zj,isCallV,zy,zz,zV,zM,zk,pureOp,killT,aev,cv,cvc,yieldA,yab,yaj,zr,zc,↓reduceIte,za,zb,zi,zd,zm,zq,zo,Nat.reduceEqDiff,zg]
      refine call_meets (h10) (by simp only [aev,cv,cvc,zA] <;> rfl) ?_; simp only [zO,zj,isCallV,zy,zz,zV,zM,zk,pureOp,killT,aev,cv,cvc,yieldA,yab,yaj,zr,zc,↓reduceIte,za,zb,zl,zi,zd,zm,zq,zo,Nat.reduceEqDiff,zg]
      refine call_meets (h11) (by simp only [aev,cv,cvc,yai,zt,zA,zE] <;> rfl) ?_; simp only [yav,zG,zn,ze,zj,zp,zB,zM,zk,yaw,pureOp,apureO,killT,aev,cv,cvc,yaq,zQ,zX,zr,zu,zR,notExit,yas,yat,oneA_1,↓reduceIte,zd,zh,zo,and_self,Nat.reduceEqDiff,zg]
      try simp
theorem end_ (W : World) {v1 v2 : Value} (op : ByteArray) (_ : op.size ≤ maxLen) (zs : List Int) (num : Int) (h1 : RepD (fun b => b < W.heap.size) W (numV zs num) v1) (_ : zs.length ≤ maxLen) (_ : ∀ z ∈ zs, (Lit.int .i64 z).wf = true) (_ : (Lit.int .i64 num).wf = true) (l : List Ar) (h2 : RepD (fun b => b < W.heap.size) W (arrs l) v2) (hl : l.length ≤ maxLen) :
    Calls Try.prog 4 #[.string op, v1, v2] W fun e w' => e = .returned (.bool true) ∧ Below W.heap.size W w' :=
  law_of (law op zs num l hl) (vs := [.string op, v1, v2]) ⟨_, _, rfl, rfl, _, _, rfl, h1, _, _, rfl, h2, rfl⟩
end Go.Proofs.Ytbmmemglkjeogaa.S33
