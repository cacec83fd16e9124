/- Linear expressions: substituting, in the program. -/
import Derived.Test.YtjgaebomcdkohaaGreatDoorL6
import Derived.Test.YtjgaebomcdkohaaGreatDoorL7
namespace Go.Proofs.YtjgaebomcdkohaaGreatDoor.L13
open Go Go.Proofs.YtjgaebomcdkohaaGreatDoor.Eng Go.Proofs.YtjgaebomcdkohaaGreatDoor Go.RowKit Go.Proofs.YtjgaebomcdkohaaGreatDoor.L1 Go.Proofs.YtjgaebomcdkohaaGreatDoor.L2 Go.Proofs.YtjgaebomcdkohaaGreatDoor.L3 Go.Proofs.YtjgaebomcdkohaaGreatDoor.L4 Go.Proofs.YtjgaebomcdkohaaGreatDoor.L5 Go.Proofs.YtjgaebomcdkohaaGreatDoor.L6 Go.Proofs.YtjgaebomcdkohaaGreatDoor.L7
open _root_.List renaming getElem?_cons_zero → za, getElem?_cons_succ → zd, length_cons → zi, append_nil → zj, length_nil → zl, take_succ_cons → zp, map_cons → zr, map_nil → zx, set_cons_zero → zA, set_cons_succ → zB, drop_zero → zE, take_nil → zF, nil_append → zI, isEmpty_nil → zL, all_cons → zP, cons_append → zR, all_nil → zT
open _root_.Bool renaming false_eq_true → zb, true_and → zf, and_self → zy, or_true → zS, and_true → yab
open _root_.Go.Proofs.YtjgaebomcdkohaaGreatDoor.Eng renaming awpOps_one → zg, awpOps_nil → zh, slot_is → zk, awpOp_is → zo, putK_is → zu, seqQ_n → zz, awp_reg → zD, put_s → zG, awp_seq → zJ, consO_some → zK, toDL_cons → zM, loadA_p → zN, toDL_nil → zO, awp_cond → zQ, elO_s → zU, ownsL_cons → zV, callW_is → zW, callV_is → zX, updK_is → zY, ownsL_nil → zZ, toD_c → yaa, toD_agg → yac, upd_s → yad, resA_nil → yae, resA_tmp → yaf, ownsV_sl → yag, awp_ret → yah, ownsV_agg → yai, retA_is → yaj, awp_skip → yak, ownsV_c → yal, toD_sl → yam, flat_c → yan, condA_t → yao, condA_f → yap
open _root_.Option renaming map_some → zq
open _root_.Nat renaming zero_add → zw, le_refl → zH
set_option linter.unusedSimpArgs false
set_option linter.unusedVariables false
set_option linter.unusedSectionVars false
set_option maxRecDepth 100000

structure Bd where
  kind : Int
  var : ByteArray
  c : Int
  ts : List Tm
  row : ByteArray
  dims : List (Int × List Tm)
  elem : ByteArray
abbrev bdV (b : Bd) : List AV := [I b.kind, S b.var, I b.c, tms b.ts, S b.row, .sl false 2 (b.dims.map fun d => [I d.1, tms d.2]), S b.elem]
abbrev bds (bs : List Bd) : AV := .sl false 7 (bs.map bdV)
abbrev hitB (v : ByteArray) (b : Bd) : Bool := (b.kind == 1) && (b.var.toList == v.toList)
def findI (p : Bd → Bool) : List Bd → Nat → Int
  | [], _ => -1
  | b :: r, k => if p b = true then k else findI p r (k + 1)
theorem findI_spec (p : Bd → Bool) : ∀ (bs : List Bd) (k : Nat), (findI p bs k = -1 ∧ bs.find? p = none) ∨ ∃ i b, bs[i]? = some b ∧ bs.find? p = some b ∧ findI p bs k = (k + i : Nat)
  | [], k => Or.inl ⟨rfl, rfl⟩
  | b :: r, k => by
    unfold findI
    cases h : p b with
    | true => exact Or.inr ⟨0, b, rfl, by simp [List.find?, h], by simp⟩
    | false =>
      rcases findI_spec p r (k + 1) with ⟨h1, h2⟩ | ⟨i, c, h1, h2, h3⟩
      · exact Or.inl ⟨by simpa using h1, by simp [List.find?, h, h2]⟩
      · refine Or.inr ⟨i + 1, c, by simpa using h1, by simp [List.find?, h, h2], ?_⟩
        simp only [zb,if_false,h3]
        omega

theorem hit (v : ByteArray) (x : Int) (b : Bd) : Meets Tryz.prog 48 [.agg (bdV b), .dptr [S v, I x]] (B (hitB v b)) := by
  refine meets_of (X := false) Ty.mixed Tryz.func48 (by kernel_rfl) rfl (by kernel_rfl) (by simp) ?_; rw [Tryz.ntmps48, Tryz.results48]
  cases h : b.kind == 1 with
  | false =>
    simp only [zD,zJ,yah,zz,zh,zg,awpOps_if,zo,isCallV,zu,zY,zG,yad,zk,yaj,pureOp,apureO,astepO,killT,aev,cv,cvc,binK,zU,zN,cellsA,cellOk,yieldA,guardA_tf,pickA_f,yaa,notExit,yae,yaf,oneA_1,argT,isC,bsD,zb,↓reduceIte,za,zd,zi,zl,zI,List.getElem?_toArray,Option.bind_some,zf,true_and,ne_eq,not_false_eq_true,reduceCtorEq,Nat.reduceAdd,Nat.reduceEqDiff,zw,Ty.td3,Ty.td49,h]
    simp [hitB, h]
  | true =>
    simp only [zD,zJ,yah,zz,zh,zg,awpOps_if,zo,isCallV,awpO_is,zu,zY,zG,yad,zk,yaj,pureOp,apureO,astepO,killT,aev,cv,cvc,binK,zU,loadA_d,zN,cellsA,cellOk,yieldA,guardA_tt,pickA_t,yaa,notExit,yae,yaf,oneA_1,argT,eqFK_nil,eqOpK_e,isC,bsD,zb,↓reduceIte,za,zd,zi,zl,zI,List.getElem?_toArray,Option.bind_some,zE,zf,true_and,ne_eq,not_false_eq_true,reduceCtorEq,Nat.reduceAdd,Nat.reduceEqDiff,zw,Ty.td3,Ty.td9,Ty.td42,Ty.td49,h]
    simp [hitB, h]
theorem idx (v : ByteArray) (x : Int) (bs : List Bd) (hl : bs.length ≤ 1000000) : Meets Tryz.prog 47 [bds bs, .fn 48 [.dptr [S v, I x]]] (I (findI (hitB v) bs 0)) := by
  refine meets_of (X := false) Ty.mixed Tryz.func47 (by kernel_rfl) rfl (by kernel_rfl) (by simp) ?_; rw [Tryz.ntmps47, Tryz.results47]
  simp only [zD,zJ,awp_block,awp_loop,zz,zh,zg,zo,zu,zG,zk,pureOp,apureO,aev,cv,cvc,zU,lenA,lenK,argT,mlenA_sl,isC,bsD,↓reduceIte,zf,true_and,reduceCtorEq,zw,Option.isSome_some,Ty.td32,List.length_map]
  refine loop_k (fun k : Nat => k ≤ bs.length ∧ findI (hitB v) bs 0 = findI (hitB v) (bs.drop k) k) (fun k => ⟨19, [(8, I k), (7, I bs.length), (0, bds bs), (1, .fn 48 [.dptr [S v, I x]])], []⟩) (fun k => bs.length - k) 0 ⟨Nat.zero_le _, rfl⟩ (by simp only [zk,aev,cv,cvc,Weak,isC,bsD,↓reduceIte,yab,zy,and_true,and_self,reduceCtorEq,Nat.reduceEqDiff]; simp) rfl rfl ?_
  rintro k ⟨hk, hi⟩ K hK
  rw [hi]
  by_cases hlt : k < bs.length
  · have hb : bs[k]? = some bs[k] := List.getElem?_eq_getElem hlt
    rw [List.drop_eq_getElem_cons hlt, findI] at hi ⊢
    generalize bs[k] = b at *
    simp only [yak,zD,zJ,zQ,awp_block,zz,zh,zg,zo,isCallV,zW,zX,zu,zG,zk,pureOp,apureO,aev,cv,cvc,binK,zU,loadA_d,yao,isC,bsD,Int.natCast_nonneg,zb,↓reduceIte,zi,zl,zr,zx,zR,zI,zq,zp,zf,true_and,reduceCtorEq,Nat.reduceAdd,Nat.reduceEqDiff,zw,Int.toNat_natCast,zH,zF,Ty.td32,Ty.td49,show decide ((k : Int) < (bs.length : Int)) = true from decide_eq_true (by omega),List.getElem?_map,hb]
    refine call_meets (hit v x b) (by simp only [aev,cv,cvc,yaa,yac,yam,toD_dptr,zK,zO,zM,isC,bsD,zq] <;> rfl) ?_; simp only [zQ,zz,zh,yad,zk,killT,aev,cv,cvc,yan,yal,yai,yag,ownsV_dptr,zZ,zV,isC,bsD,↓reduceIte,zj,zS,zL]
    cases hh : hitB v b with
    | true =>
      simp only [zD,zJ,yah,zz,seqQ_r,loopQ_r,blkQ_r,zh,zg,zo,zu,zG,zk,yaj,pureOp,apureO,aev,cv,cvc,yao,yaa,notExit,yae,yaf,oneA_1,isC,bsD,↓reduceIte,zy,and_self,Nat.reduceEqDiff,hh]
    | false =>
      rw [hh] at hi
      simp only [yak,zD,zz,loopQ_n,blkQ_n,zh,zg,zo,zu,zG,zk,pureOp,apureO,aev,cv,cvc,binK,yap,isC,bsD,zb,↓reduceIte,zf,true_and,Nat.reduceEqDiff,hh]
      rw [wrap_in (by omega) (by omega)]
      refine hK (k + 1) _ ⟨by omega, by simpa using hi⟩ (by omega) ?_ rfl rfl
      simp only [zk,aev,cv,cvc,Weak,isC,bsD,↓reduceIte,yab,zy,and_true,and_self,reduceCtorEq,Nat.reduceEqDiff]
      simp
  · have h0 : bs.drop k = [] := List.drop_eq_nil_of_le (by omega)
    rw [h0]
    simp only [zD,zJ,zQ,awp_exit,yah,zz,seqQ_e,loopQ_e,blkQ_e,zh,zg,zo,zu,zG,zk,yaj,pureOp,apureO,aev,cv,cvc,binK,yap,yaa,notExit,yae,yaf,oneA_1,isC,bsD,↓reduceIte,zf,true_and,Nat.reduceEqDiff,show decide ((k : Int) < (bs.length : Int)) = false from decide_eq_false (by omega)]
    rfl

def byE (bs : List Bd) (v : ByteArray) : Int × List Tm := match bs.find? (hitB v) with | some b => (b.c, b.ts) | none => (0, [(v, 1)])
def subL (bs : List Bd) : List Tm → Int × List Tm → Option (Int × List Tm)
  | [], st => some st
  | t :: r, st => if validE (byE bs t.1).1 (byE bs t.1).2 = true then subL bs r (addS t.2 (byE bs t.1).1 (byE bs t.1).2 st) else none
def substE (c : Int) (ts : List Tm) (bs : List Bd) : (Int × List Tm) × Int :=
  if validE c ts = true then match subL bs ts (c, []) with | none => ((0, []), 1) | some st => linearE st.1 st.2 else ((0, []), 1)


def okB (bs : List Bd) : Prop := bs.length ≤ 1000 ∧ ∀ b ∈ bs, b.ts.length ≤ 1000 ∧ ∀ t ∈ b.ts, t.1.size ≤ 1000000
theorem by_small {bs : List Bd} {v : ByteArray} (h : okB bs) (hv : v.size ≤ 1000000) : (byE bs v).2.length ≤ 1000 ∧ ∀ t ∈ (byE bs v).2, t.1.size ≤ 1000000 := by
  unfold byE
  cases hf : bs.find? (hitB v) with
  | none => exact ⟨by simp, fun t ht => by simp at ht; subst ht; exact hv⟩
  | some b => exact h.2 b (List.mem_of_find?_eq_some hf)
abbrev hS (c : Int) (ts : List Tm) (c' : Int) (cs : List Tm) : Heap := [some (.var 24 [I c, tms ts]), some (.var 24 [I 0, .nils]), mapB cs, sumB 2 c']
theorem subst_res (hks : KS) (c : Int) (ts : List Tm) (bs : List Bd) (hb : okB bs) (hl : ts.length ≤ 100) (hts : ∀ t ∈ ts, t.1.size ≤ 1000000) (hv : validE c ts = true) (res : AV) (hN : subL bs ts (c, []) = none → res = .tup [.agg [I 0, .nils], I 1]) (hR : ∀ st, subL bs ts (c, []) = some st → res = linR (linearE st.1 st.2)) : Meets Tryz.prog 21 [ln c ts, bds bs] res := by
  have hsm : small ts := ⟨by omega, hts⟩
  refine meets_of (X := true) Ty.mixed Tryz.func21 (by kernel_rfl) rfl (by kernel_rfl) (by simp) ?_; rw [Tryz.ntmps21, Tryz.results21]
  simp only [zD,zJ,zz,zh,zg,zo,isCallV,zW,zX,zu,zY,zG,yad,zk,pureOp,apureO,astepO,killT,aev,cv,cvc,zU,zN,cellsA,cellOk,argT,isC,bsD,zb,↓reduceIte,za,zi,zl,zr,zx,zR,zI,zj,zp,zE,zP,zT,zf,zy,Value.oneCell',true_and,and_self,Nat.reduceAdd,Nat.reduceEqDiff,zw,zH,zF,Ty.td24]
  refine call_meets (valid c ts hsm) (by simp only [aev,cv,cvc,yaa,yac,yam,zK,zO,zM,isC,bsD,zq] <;> rfl) ?_; simp only [zQ,zz,zh,zg,zo,zu,zG,yad,zk,pureOp,apureO,killT,aev,cv,cvc,yan,yal,yai,yag,zZ,zV,isC,bsD,↓reduceIte,zj,zS,zL]
  simp only [yak,zD,zJ,zz,zg,zo,isCallV,zW,zX,zu,zG,zk,pureOp,apureO,aev,cv,cvc,zU,zN,yap,isC,bsD,zb,↓reduceIte,za,zi,zl,zr,zx,zj,zf,Bool.not_true,true_and,ne_eq,not_false_eq_true,reduceCtorEq,Nat.reduceAdd,Nat.reduceEqDiff,zw,Ty.td3,Ty.td24,hv]
  refine call_inl (X := false) Ty.mixed Tryz.func45 (by kernel_rfl) rfl (by kernel_rfl) (by simp) ?_; rw [Tryz.ntmps45, Tryz.results45]; simp only [zD,zJ,awp_block,awp_loop,yah,zz,zh,zg,zo,isCallV,inlQ_is,retT_s,shiftT,unshift,zu,zY,zG,yad,zk,slot.eq_1,pureOp,apureO,astepO,killT,aev,cv,cvc,zU,lenA,lenK,zN,cellsA,cellOk,setAll,fillA,placeT,placesA,notExit,yae,yaf,oneA_1,argT,mapT_is,kindK_is,mmakA_n,mlenA_sl,isC,bsD,zb,↓reduceIte,za,zd,zi,zl,zr,zx,zR,zI,zA,zB,Option.map_none,zP,zT,zf,zy,Value.oneCell',true_and,and_self,ne_eq,not_false_eq_true,reduceCtorEq,Nat.reduceAdd,Nat.reduceLeDiff,Nat.reduceEqDiff,Nat.reduceSub,zw,Nat.add_zero,Option.isSome_some,zH,Ty.td3,Ty.td9,Ty.td22,Ty.td24,Ty.td109,Ty.td111]
  refine loop_g (fun a : Nat × Int × List Tm => a.1 ≤ ts.length ∧ subL bs (ts.drop a.1) a.2 = subL bs ts (c, []) ∧ a.2.2.length ≤ 1000 * a.1 ∧ ∀ t ∈ a.2.2, t.1.size ≤ 1000000) (fun a => ⟨52, [(21, I a.1), (20, I ts.length), (19, tms ts), (6, .ptr 3 0), (4, .ptr 1 0), (1, bds bs)], hS c ts a.2.1 a.2.2⟩) (fun a => ts.length - a.1) (0, c, []) ⟨Nat.zero_le _, rfl, by simp, by simp⟩ (by simp only [zk,aev,cv,cvc,Weak,isC,bsD,↓reduceIte,yab,zy,and_true,and_self,reduceCtorEq,Nat.reduceEqDiff]; simp) rfl (.inl rfl) ?_
  rintro ⟨k, c1, cs1⟩ ⟨h1, h2, h3, h4⟩ K hK
  simp only at h1 h2 h3 h4 ⊢
  rw [← h2] at hN hR
  by_cases hlt : k < ts.length
  case neg =>
    have h0 : ts.drop k = [] := List.drop_eq_nil_of_le (by omega)
    rw [h0] at hR
    simp only [zD,zJ,zQ,awp_exit,zz,seqQ_e,loopQ_e,blkQ_e,zh,zg,zo,isCallV,zW,zX,zu,zG,zk,pureOp,apureO,aev,cv,cvc,binK,yap,isC,bsD,zb,↓reduceIte,zr,zx,zj,zf,true_and,Nat.reduceEqDiff,show decide ((k : Int) < (ts.length : Int)) = false from decide_eq_false (by omega)]
    refine linear_in hks ⟨by omega, h4⟩ rfl rfl rfl rfl ?_
    simp only [yah,zz,zh,zg,zo,isCallV,zu,zY,zG,upd_n,zk,yaj,pureOp,apureO,astepO,killT,aev,cv,cvc,zU,zN,storeA,cellsA,cellOk,setAll,yaa,toD_tup,yac,yam,zK,zO,zM,notExit,yae,yaf,resA_cell,oneA_2,isC,bsD,zb,↓reduceIte,za,zd,zi,zl,zA,zB,zq,zp,zE,zf,true_and,Nat.reduceAdd,Nat.reduceEqDiff,zw,zH,zF,Ty.td24]
    rw [hR _ rfl]
  have ht : ts[k]? = some ts[k] := List.getElem?_eq_getElem hlt
  have hsz := hts ts[k] (List.getElem_mem hlt)
  have h2' := h2
  rw [List.drop_eq_getElem_cons hlt, subL] at hN hR h2'
  generalize ts[k] = t at *
  obtain ⟨v, x⟩ := t
  simp only at hN hR h2' hsz
  have hby := by_small hb hsz
  simp only [yak,zD,zJ,zQ,awp_block,zz,zh,zg,zo,isCallV,zW,zX,zu,zY,zG,upd_n,yad,zk,pureOp,apureO,astepO,killT,aev,cv,cvc,binK,zU,loadA_d,zN,storeA,cellsA,cellOk,setAll,yao,isC,bsD,Int.natCast_nonneg,zb,↓reduceIte,za,zd,zi,zl,zr,zx,zR,zI,zj,zA,zB,zq,zp,zP,zT,zf,zy,Value.oneCell',true_and,and_self,ne_eq,not_false_eq_true,reduceCtorEq,Nat.reduceAdd,Nat.reduceEqDiff,zw,Int.toNat_natCast,zH,zF,Ty.td9,Ty.td22,Ty.td42,show decide ((k : Int) < (ts.length : Int)) = true from decide_eq_true (by omega),List.getElem?_map,ht]
  refine call_meets (var_ v) (by simp only [aev,cv,cvc,yaa,zK,zO,zM,isC,bsD] <;> rfl) ?_; simp only [zD,zJ,zz,zh,zg,zo,isCallV,zW,zX,zu,zY,zG,upd_n,yad,zk,pureOp,apureO,astepO,killT,aev,cv,cvc,zU,storeA,cellsA,cellOk,setAll,yan,flat_agg,flat_sl,flatL_nil,flatL_cons,yal,zZ,zV,isC,mkfA_fn,bsD,zb,↓reduceIte,za,zd,zi,zl,zr,zx,zR,zI,zj,zA,zB,zP,zT,yab,zf,Bool.and_false,zy,zS,Value.oneCell',true_and,and_true,and_self,Nat.reduceAdd,Nat.reduceEqDiff,zw,zL,zH,Ty.td24]
  refine call_meets (idx v x bs (by have := hb.1; omega)) (by simp only [aev,cv,cvc,isD_c,isDL_nil,isDL_cons,yam,toD_fn,toD_ptr,zK,zO,zM,isC,bsD,↓reduceIte,za,zd,zq,zE,zy,and_self] <;> rfl) ?_; simp only [zD,zJ,zQ,zz,zh,zg,zo,zu,zG,yad,zk,pureOp,apureO,killT,aev,cv,cvc,binK,yan,yag,ownsV_fn,ownsV_ptr,zZ,zV,isC,bsD,↓reduceIte,zI,zj,zf,Bool.or_false,true_and,List.isEmpty_cons,or_false]
  rcases findI_spec (hitB v) bs 0 with ⟨hi, hf⟩ | ⟨i, b, hbi, hf, hi⟩
  · have hbe : byE bs v = (0, [(v, 1)]) := by unfold byE; rw [hf]
    rw [hbe] at hN hR h2' hby
    simp only at hN hR h2' hby
    rw [hi]
    simp only [yak,zD,zJ,zz,zg,zo,isCallV,zW,zX,zu,zG,zk,pureOp,apureO,aev,cv,cvc,zU,zN,yap,isC,bsD,zb,↓reduceIte,za,zd,zi,zl,zr,zx,zj,zp,zE,zf,true_and,Nat.reduceAdd,Nat.reduceEqDiff,zw,zH,zF,Ty.td24,show decide ((0 : Int) ≤ -1) = false from rfl]
    cases hvy : validE 0 [(v, 1)] with
    | false =>
      rw [hvy] at hN
      refine call_meets (valid 0 [(v, 1)] ⟨by have := hby.1; omega, hby.2⟩) (by simp only [aev,cv,cvc,yaa,yac,yam,zK,zO,zM,isC,bsD,zr,zx,zq] <;> rfl) ?_; simp only [zQ,zz,zh,zg,zo,zu,zG,yad,zk,pureOp,apureO,killT,aev,cv,cvc,yan,yal,yai,yag,zZ,zV,isC,bsD,↓reduceIte,zj,zS,zL]
      simp only [zD,zJ,yah,zz,seqQ_r,loopQ_r,blkQ_r,zh,zg,zo,isCallV,zu,zY,zG,upd_n,zk,slot.eq_1,yaj,pureOp,apureO,astepO,killT,aev,cv,cvc,zU,zN,storeA,cellsA,cellOk,setAll,fillA,placeT,placesA,yao,yaa,toD_nils,toD_tup,yac,zK,zO,zM,notExit,yae,yaf,resA_cell,oneA_2,isC,bsD,zb,↓reduceIte,za,zd,zi,zl,zr,zx,zA,zB,zq,zp,zE,zP,zT,zf,zy,Bool.not_false,Value.oneCell',true_and,and_self,ne_eq,not_false_eq_true,reduceCtorEq,Nat.reduceAdd,Nat.reduceEqDiff,zw,zH,zF,Ty.td3,Ty.td22,Ty.td24,hvy]
      rw [hN rfl]
    | true =>
      rw [hvy] at h2'
      refine call_meets (valid 0 [(v, 1)] ⟨by have := hby.1; omega, hby.2⟩) (by simp only [aev,cv,cvc,yaa,yac,yam,zK,zO,zM,isC,bsD,zr,zx,zq] <;> rfl) ?_; simp only [zQ,zz,zh,zg,zo,zu,zG,yad,zk,pureOp,apureO,killT,aev,cv,cvc,yan,yal,yai,yag,zZ,zV,isC,bsD,↓reduceIte,zj,zS,zL]
      simp only [yak,zD,zz,zg,zo,isCallV,zW,zX,zu,zG,zk,pureOp,apureO,aev,cv,cvc,zU,zN,yap,isC,bsD,zb,↓reduceIte,za,zd,zi,zl,zr,zx,zj,zp,zE,zf,Bool.not_true,true_and,ne_eq,not_false_eq_true,reduceCtorEq,Nat.reduceAdd,Nat.reduceEqDiff,zw,zH,zF,Ty.td3,Ty.td24,Ty.td42,hvy]
      refine add_in 0 x [(v, 1)] ⟨by have := hby.1; omega, hby.2⟩ rfl rfl rfl rfl ?_
      simp only [zD,zz,loopQ_n,blkQ_n,zh,zg,zo,zu,zG,zk,pureOp,apureO,aev,cv,cvc,binK,isC,bsD,↓reduceIte,zA,zB,zf,true_and,Nat.reduceEqDiff,H2]
      rw [wrap_in (x := (k : Int) + 1) (by omega) (by omega)]
      refine hK (k + 1, _) _ ⟨by simp only; omega, h2', by have := addT_len x [(v, 1)] cs1; have := hby.1; simp only; omega, addT_mem (P := fun v => v.size ≤ 1000000) x [(v, 1)] hby.2 h4⟩ (by simp only; omega) (by simp only [zk,aev,cv,cvc,Weak,isC,bsD,↓reduceIte,yab,zy,and_true,and_self,Nat.reduceEqDiff]; simp) rfl (.trim rfl rfl rfl)
  · have hbe : byE bs v = (b.c, b.ts) := by unfold byE; rw [hf]
    rw [hbe] at hN hR h2' hby
    simp only at hN hR h2' hby
    rw [hi, Nat.zero_add]
    simp only [zD,zJ,zz,zh,zg,zo,isCallV,zW,zX,zu,zY,zG,upd_n,zk,pureOp,apureO,astepO,killT,aev,cv,cvc,zU,loadA_d,zN,storeA,cellsA,cellOk,setAll,yao,isC,bsD,Int.natCast_nonneg,zb,↓reduceIte,za,zd,zi,zl,zr,zx,zj,zA,zB,zq,zp,List.take_zero,List.drop_succ_cons,zE,zf,true_and,ne_eq,not_false_eq_true,reduceCtorEq,Nat.reduceAdd,Nat.reduceLeDiff,Nat.reduceEqDiff,zw,Int.toNat_natCast,decide_true,zH,zF,Ty.td24,Ty.td32,Ty.td49,show decide ((0 : Int) ≤ (i : Int)) = true from decide_eq_true (by omega),List.getElem?_map,hbi]
    cases hvy : validE b.c b.ts with
    | false =>
      rw [hvy] at hN
      refine call_meets (valid b.c b.ts ⟨by have := hby.1; omega, hby.2⟩) (by simp only [aev,cv,cvc,yaa,yac,yam,zK,zO,zM,isC,bsD,zq] <;> rfl) ?_; simp only [zQ,zz,zh,zg,zo,zu,zG,yad,zk,pureOp,apureO,killT,aev,cv,cvc,yan,yal,yai,yag,zZ,zV,isC,bsD,↓reduceIte,zj,zS,zL]
      simp only [zD,zJ,yah,zz,seqQ_r,loopQ_r,blkQ_r,zh,zg,zo,isCallV,zu,zY,zG,upd_n,zk,slot.eq_1,yaj,pureOp,apureO,astepO,killT,aev,cv,cvc,zU,zN,storeA,cellsA,cellOk,setAll,fillA,placeT,placesA,yao,yaa,toD_nils,toD_tup,yac,zK,zO,zM,notExit,yae,yaf,resA_cell,oneA_2,isC,bsD,zb,↓reduceIte,za,zd,zi,zl,zr,zx,zA,zB,zq,zp,zE,zP,zT,zf,zy,Bool.not_false,Value.oneCell',true_and,and_self,ne_eq,not_false_eq_true,reduceCtorEq,Nat.reduceAdd,Nat.reduceEqDiff,zw,zH,zF,Ty.td3,Ty.td22,Ty.td24,hvy]
      rw [hN rfl]
    | true =>
      rw [hvy] at h2'
      refine call_meets (valid b.c b.ts ⟨by have := hby.1; omega, hby.2⟩) (by simp only [aev,cv,cvc,yaa,yac,yam,zK,zO,zM,isC,bsD,zq] <;> rfl) ?_; simp only [zQ,zz,zh,zg,zo,zu,zG,yad,zk,pureOp,apureO,killT,aev,cv,cvc,yan,yal,yai,yag,zZ,zV,isC,bsD,↓reduceIte,zj,zS,zL]
      simp only [yak,zD,zz,zg,zo,isCallV,zW,zX,zu,zG,zk,pureOp,apureO,aev,cv,cvc,zU,zN,yap,isC,bsD,zb,↓reduceIte,za,zd,zi,zl,zr,zx,zj,zp,zE,zf,Bool.not_true,true_and,ne_eq,not_false_eq_true,reduceCtorEq,Nat.reduceAdd,Nat.reduceEqDiff,zw,zH,zF,Ty.td3,Ty.td24,Ty.td42,hvy]
      refine add_in b.c x b.ts ⟨by have := hby.1; omega, hby.2⟩ rfl rfl rfl rfl ?_
      simp only [zD,zz,loopQ_n,blkQ_n,zh,zg,zo,zu,zG,zk,pureOp,apureO,aev,cv,cvc,binK,isC,bsD,↓reduceIte,zA,zB,zf,true_and,Nat.reduceEqDiff,H2]
      rw [wrap_in (x := (k : Int) + 1) (by omega) (by omega)]
      refine hK (k + 1, _) _ ⟨by simp only; omega, h2', by have := addT_len x b.ts cs1; have := hby.1; simp only; omega, addT_mem (P := fun v => v.size ≤ 1000000) x b.ts hby.2 h4⟩ (by simp only; omega) (by simp only [zk,aev,cv,cvc,Weak,isC,bsD,↓reduceIte,yab,zy,and_true,and_self,Nat.reduceEqDiff]; simp) rfl (.trim rfl rfl rfl)

theorem subst (hks : KS) (c : Int) (ts : List Tm) (bs : List Bd) (hb : okB bs) (hl : ts.length ≤ 100) (hts : ∀ t ∈ ts, t.1.size ≤ 1000000) : Meets Tryz.prog 21 [ln c ts, bds bs] (linR (substE c ts bs)) := by
  unfold substE
  cases hv : validE c ts with
  | false =>
    refine Meets.weak (r0 := .tup [.agg [I 0, .nils], I 1]) ?_ fun ok w v h => nilR h
    refine meets_of (X := true) Ty.mixed Tryz.func21 (by kernel_rfl) rfl (by kernel_rfl) (by simp) ?_; rw [Tryz.ntmps21, Tryz.results21]
    simp only [zD,zJ,zz,zh,zg,zo,isCallV,zW,zX,zu,zY,zG,yad,zk,pureOp,apureO,astepO,killT,aev,cv,cvc,zU,zN,cellsA,cellOk,argT,isC,bsD,zb,↓reduceIte,za,zi,zl,zr,zx,zR,zI,zj,zp,zE,zP,zT,zf,zy,Value.oneCell',true_and,and_self,Nat.reduceAdd,Nat.reduceEqDiff,zw,zH,zF,Ty.td24]
    refine call_meets (valid c ts ⟨by omega, hts⟩) (by simp only [aev,cv,cvc,yaa,yac,yam,zK,zO,zM,isC,bsD,zq] <;> rfl) ?_; simp only [zQ,zz,zh,zg,zo,zu,zG,yad,zk,pureOp,apureO,killT,aev,cv,cvc,yan,yal,yai,yag,zZ,zV,isC,bsD,↓reduceIte,zj,zS,zL]
    simp only [zD,zJ,yah,zz,seqQ_r,zh,zg,zo,isCallV,zu,zY,zG,upd_n,zk,slot.eq_1,yaj,pureOp,apureO,astepO,killT,aev,cv,cvc,zU,zN,storeA,cellsA,cellOk,setAll,fillA,placeT,placesA,yao,yaa,toD_nils,toD_tup,yac,zK,zO,zM,notExit,yae,yaf,resA_cell,oneA_2,isC,bsD,zb,↓reduceIte,za,zd,zi,zl,zr,zx,zA,zB,zq,zp,zE,zP,zT,zf,zy,Bool.not_false,Value.oneCell',true_and,and_self,ne_eq,not_false_eq_true,reduceCtorEq,Nat.reduceAdd,Nat.reduceEqDiff,zw,zH,zF,Ty.td3,Ty.td22,Ty.td24,hv]
  | true =>
    simp only [if_true]
    cases h : subL bs ts (c, []) with
    | none => exact Meets.weak (subst_res hks c ts bs hb hl hts hv (.tup [.agg [I 0, .nils], I 1]) (fun _ => rfl) (fun st hs => by rw [h] at hs; cases hs)) fun ok w v h => nilR h
    | some st => exact subst_res hks c ts bs hb hl hts hv _ (fun hn => by rw [h] at hn; cases hn) fun st' hs => by rw [h] at hs; cases hs; rfl

end Go.Proofs.YtjgaebomcdkohaaGreatDoor.L13
