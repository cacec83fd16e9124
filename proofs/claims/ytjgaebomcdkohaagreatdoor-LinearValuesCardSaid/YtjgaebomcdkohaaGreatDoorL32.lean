/- Linear expressions: substituting, in the reference; the law. -/
import Derived.Test.YtjgaebomcdkohaaGreatDoorL24
import Derived.Test.YtjgaebomcdkohaaGreatDoorL28
import Derived.Test.YtjgaebomcdkohaaGreatDoorL31
import Derived.Test.YtjgaebomcdkohaaGreatDoorLFit
namespace Go.Proofs.YtjgaebomcdkohaaGreatDoor.L32
open Go Go.Proofs.YtjgaebomcdkohaaGreatDoor.Eng Go.Proofs.YtjgaebomcdkohaaGreatDoor Go.RowKit Go.Proofs.YtjgaebomcdkohaaGreatDoor.L1 Go.Proofs.YtjgaebomcdkohaaGreatDoor.L2 Go.Proofs.YtjgaebomcdkohaaGreatDoor.L3 Go.Proofs.YtjgaebomcdkohaaGreatDoor.L6 Go.Proofs.YtjgaebomcdkohaaGreatDoor.L12 Go.Proofs.YtjgaebomcdkohaaGreatDoor.L13 Go.Proofs.YtjgaebomcdkohaaGreatDoor.L15 Go.Proofs.YtjgaebomcdkohaaGreatDoor.L16 Go.Proofs.YtjgaebomcdkohaaGreatDoor.L17 Go.Proofs.YtjgaebomcdkohaaGreatDoor.L18 Go.Proofs.YtjgaebomcdkohaaGreatDoor.L19 Go.Proofs.YtjgaebomcdkohaaGreatDoor.L20 Go.Proofs.YtjgaebomcdkohaaGreatDoor.L22 Go.Proofs.YtjgaebomcdkohaaGreatDoor.L23 Go.Proofs.YtjgaebomcdkohaaGreatDoor.L24 Go.Proofs.YtjgaebomcdkohaaGreatDoor.L27 Go.Proofs.YtjgaebomcdkohaaGreatDoor.L28 Go.Proofs.YtjgaebomcdkohaaGreatDoor.L31
open _root_.List renaming getElem?_cons_zero → za, getElem?_cons_succ → zb, length_cons → zg, length_nil → zh, take_succ_cons → zi, set_cons_zero → zp, set_cons_succ → zq, append_nil → zr, drop_zero → zy, map_cons → zz, map_nil → zB, take_nil → zE, isEmpty_nil → zJ, all_cons → zK, all_nil → zO, nil_append → zR, cons_append → zW, getElem?_map → yam, length_map → yar
open _root_.Bool renaming false_eq_true → zd, true_and → zf, and_self → zl, and_true → zF, or_true → zS, and_false → yak, not_false → yaw, not_true → yay
open _root_.Go.Proofs.YtjgaebomcdkohaaGreatDoor.Eng renaming awpOps_one → zj, awpOps_nil → zo, slot_is → zw, awpOp_is → zx, putK_is → zD, consO_some → zG, seqQ_n → zH, toDL_cons → zI, awp_reg → zL, put_s → zM, toDL_nil → zN, updK_is → zP, loadA_p → zQ, elO_s → zT, awp_seq → zU, toD_agg → zV, ownsL_cons → zX, awp_cond → zY, upd_s → zZ, toD_c → yaa, ownsL_nil → yab, upd_n → yac, resA_cell → yad, callW_is → yag, callV_is → yah, ownsV_agg → yai, ownsV_c → yaj, toD_sl → yan, resA_nil → yao, awp_skip → yap, ownsV_sl → yaq, awp_ret → yas, retA_is → yat, condA_f → yau, resA_tmp → yav, flat_c → yax, flatL_cons → yaz, condA_t → yaA, toD_tup → yaB
open _root_.Option renaming map_some → zk, isSome_some → yaf
open _root_.Nat renaming zero_add → zu, le_refl → zA
open _root_.Int renaming natCast_nonneg → yae, toNat_natCast → yal
set_option linter.unusedSimpArgs false
set_option linter.unusedVariables false
set_option linter.unusedSectionVars false
set_option maxRecDepth 100000

theorem rvar (v : ByteArray) : Meets Tryz.prog 52 [S v] (ln 0 [(v, 1)]) := by
  refine meets_of (X := true) Ty.mixed Tryz.func52 (by kernel_rfl) rfl (by kernel_rfl) (by simp) ?_; rw [Tryz.ntmps52, Tryz.results52]
  simp only [zL,zU,yas,zH,zo,zj,zx,isCallV,zD,zP,zM,yac,zZ,zw,slot.eq_1,yat,pureOp,apureO,astepO,bsEnd_is,killT,aev,cv,cvc,zT,zQ,storeA,cellsA,cellOk,setAll,fillA,placeT,placesA,elemsA,chunk,isD_c,isDL_nil,isDL_cons,yaa,zV,toD_own,zG,zN,zI,notExit,yao,yad,oneA_1,argT,isC,bsD,zd,↓reduceIte,za,zb,zg,zh,zz,zB,zW,zR,zp,zq,zk,Option.getD_some,zi,zy,zK,zO,zF,zf,zl,Value.oneCell',true_and,and_true,and_self,ne_eq,not_false_eq_true,reduceCtorEq,Nat.reduceAdd,Nat.reduceMul,Nat.reduceLT,Nat.reduceLeDiff,Nat.reduceEqDiff,Nat.reduceMod,zu,List.range_succ,List.range_zero,zA,zE,Ty.td3,Ty.td9,Ty.td22,Ty.td24,Ty.td42]
  rfl
def boundV (bs : List Bd) (v : ByteArray) : AV := match bs.find? (hitB v) with | some b => .tup [ln b.c b.ts, B true] | none => .tup [.agg [I 0, .nils], B false]
theorem rbound (bs : List Bd) (v : ByteArray) (hl : bs.length ≤ 1000000) : Meets Tryz.prog 51 [bds bs, S v] (boundV bs v) := by
  refine meets_of (X := true) Ty.mixed Tryz.func51 (by kernel_rfl) rfl (by kernel_rfl) (by simp) ?_; rw [Tryz.ntmps51, Tryz.results51]
  simp only [zL,zU,awp_block,awp_loop,zH,zo,zj,zx,isCallV,zD,zP,zM,zZ,pureOp,apureO,astepO,killT,aev,cv,cvc,zT,argT,isC,bsD,zd,↓reduceIte,zh,zz,zB,zR,zK,zO,zf,zl,Value.oneCell',true_and,and_self,zu,Ty.td24]
  refine loop_g (fun k : Nat => k ≤ bs.length ∧ boundV bs v = boundV (bs.drop k) v) (fun k => ⟨34, [(6, I k), (5, B false), (4, .ptr 0 0), (0, bds bs), (1, S v)], [some (.var 24 [I 0, .nils])]⟩) (fun k => bs.length - k) 0 ⟨Nat.zero_le _, rfl⟩ (by simp only [zw,aev,cv,cvc,Weak,isC,bsD,↓reduceIte,zF,zl,and_true,and_self,reduceCtorEq,Nat.reduceEqDiff]; rfl) rfl (.inl rfl) ?_
  rintro k ⟨hk, hi⟩ K hK
  rw [hi]
  by_cases hlt : k < bs.length
  · have hb : bs[k]? = some bs[k] := List.getElem?_eq_getElem hlt
    rw [List.drop_eq_getElem_cons hlt] at hi ⊢
    generalize bs[k] = b at *
    simp only [yap,zL,zU,zY,awp_block,zH,zo,zj,awpOps_if,zx,zD,zM,zw,pureOp,apureO,aev,cv,cvc,binK,zT,lenA,lenK,loadA_d,yieldA,yaA,mlenA_sl,isC,bsD,yae,zd,↓reduceIte,za,zb,List.getElem?_toArray,Option.bind_some,zk,zy,zf,true_and,ne_eq,not_false_eq_true,reduceCtorEq,Nat.reduceEqDiff,yal,yaf,Ty.td3,Ty.td32,Ty.td49,show decide ((k : Int) < (bs.length : Int)) = true from decide_eq_true (by omega),yam,yar,hb]
    cases h1 : b.kind == 1 with
    | false =>
      have hh : hitB v b = false := by unfold hitB; rw [h1]; rfl
      simp only [yap,zL,zY,zH,loopQ_n,blkQ_n,zo,zj,awpOps_if,zx,zD,zM,zw,pureOp,apureO,aev,cv,cvc,binK,yieldA,guardA_tf,yau,pickA_f,isC,bsD,↓reduceIte,za,zb,List.getElem?_toArray,Option.bind_some,zf,true_and,Nat.reduceEqDiff,h1]
      rw [wrap_in (x := (k : Int) + 1) (by omega) (by omega)]
      refine hK (k + 1) _ ⟨by omega, by rw [hi]; unfold boundV; rw [List.find?_cons, hh]⟩ (by omega) ?_ rfl (.inl rfl)
      simp only [zw,aev,cv,cvc,Weak,isC,bsD,↓reduceIte,zF,zl,and_true,and_self,reduceCtorEq,Nat.reduceEqDiff]
      simp
    | true =>
      simp only [zY,zH,zo,zj,awpOps_if,zx,awpO_is,zD,zM,zw,pureOp,apureO,aev,cv,cvc,binK,zT,loadA_d,yieldA,guardA_tt,pickA_t,isC,bsD,yae,zd,↓reduceIte,za,zb,List.getElem?_toArray,Option.bind_some,zk,List.drop_succ_cons,zy,zf,true_and,ne_eq,not_false_eq_true,reduceCtorEq,Nat.reduceEqDiff,yal,Ty.td9,Ty.td32,Ty.td49,h1,yam,hb]
      cases h2 : b.var.toList == v.toList with
      | false =>
        have hh : hitB v b = false := by unfold hitB; rw [h1, h2]; rfl
        simp only [yap,zL,zH,loopQ_n,blkQ_n,zo,zj,zx,zD,zM,zw,pureOp,apureO,aev,cv,cvc,binK,yau,isC,bsD,↓reduceIte,zf,true_and,Nat.reduceEqDiff,h2]
        rw [wrap_in (x := (k : Int) + 1) (by omega) (by omega)]
        refine hK (k + 1) _ ⟨by omega, by rw [hi]; unfold boundV; rw [List.find?_cons, hh]⟩ (by omega) ?_ rfl (.inl rfl)
        simp only [zw,aev,cv,cvc,Weak,isC,bsD,↓reduceIte,zF,zl,and_true,and_self,reduceCtorEq,Nat.reduceEqDiff]
        simp
      | true =>
        have hh : hitB v b = true := by unfold hitB; rw [h1, h2]; rfl
        have hr : boundV (b :: bs.drop (k + 1)) v = .tup [ln b.c b.ts, B true] := by unfold boundV; rw [List.find?_cons, hh]
        rw [hr]
        simp only [zL,zU,yas,zH,seqQ_r,loopQ_r,blkQ_r,zo,zj,zx,isCallV,zD,zP,zM,yac,zw,yat,pureOp,apureO,astepO,killT,aev,cv,cvc,zT,loadA_d,zQ,storeA,cellsA,cellOk,setAll,yaA,yaa,yaB,zV,yan,zG,zN,zI,notExit,yao,yav,yad,oneA_2,isC,bsD,yae,zd,↓reduceIte,za,zb,zg,zh,zp,zq,zk,zi,List.take_zero,List.drop_succ_cons,zy,zF,zf,zl,true_and,and_true,and_self,ne_eq,not_false_eq_true,reduceCtorEq,Nat.reduceAdd,Nat.reduceLeDiff,Nat.reduceEqDiff,zu,yal,zA,zE,Ty.td24,Ty.td32,Ty.td49,h2,yam,hb]
  · have h0 : bs.drop k = [] := List.drop_eq_nil_of_le (by omega)
    rw [h0]
    have hr : boundV [] v = .tup [.agg [I 0, .nils], B false] := rfl
    rw [hr]
    simp only [zL,zU,zY,awp_exit,yas,zH,seqQ_e,loopQ_e,blkQ_e,zo,zj,zx,isCallV,zD,zP,zM,yac,zw,slot.eq_1,yat,pureOp,apureO,astepO,killT,aev,cv,cvc,binK,zT,lenA,lenK,zQ,storeA,cellsA,cellOk,setAll,fillA,placeT,placesA,yau,yaa,toD_nils,yaB,zV,zG,zN,zI,notExit,yao,yav,yad,oneA_2,mlenA_sl,isC,bsD,zd,↓reduceIte,za,zg,zh,zz,zB,zp,zq,zk,zi,zy,zK,zO,zF,zf,zl,Value.oneCell',true_and,and_true,and_self,ne_eq,not_false_eq_true,reduceCtorEq,Nat.reduceAdd,Nat.reduceEqDiff,zu,yaf,zA,zE,Ty.td3,Ty.td22,Ty.td24,Ty.td32,show decide ((k : Int) < (bs.length : Int)) = false from decide_eq_false (by omega),yar]

abbrev hR (c : Int) (ts : List Tm) (c' : Int) (x : AV) : Heap := [some (.var 24 [I c, tms ts]), some (.var 24 [I 0, .nils]), some (.var 24 [I c', x])]
abbrev tv (j : Nat) (l : List Tm) : AV := if j = 0 then .nils else tms l
theorem sub_step (bs : List Bd) {ts : List Tm} {j : Nat} {t : Tm} (st : Int × List Tm) (ht : ts[j]? = some t) : subR bs (ts.drop j) st = if validE (byE bs t.1).1 (byE bs t.1).2 = true then subR bs (ts.drop (j + 1)) (timesE st (byE bs t.1) t.2) else none := by
  obtain ⟨h1, rfl⟩ := List.getElem?_eq_some_iff.1 ht
  rw [List.drop_eq_getElem_cons h1, subR]
structure inv (bs : List Bd) (c : Int) (ts : List Tm) (j : Nat) (st : Int × List Tm) : Prop where
  le : j ≤ ts.length
  sub : subR bs ts (c, []) = subR bs (ts.drop j) st
  nil : j = 0 → st = (c, [])
  srt : sortedT st.2
  len : st.2.length ≤ 12 * j
  sz : ∀ t ∈ st.2, t.1.size ≤ 1000000
theorem inv_step {bs : List Bd} {c : Int} {ts : List Tm} {j : Nat} {st : Int × List Tm} {t : Tm} (h : inv bs c ts j st) (hb : okB bs) (ht : ts[j]? = some t) (hts : ∀ t ∈ ts, t.1.size ≤ 1000000) (hv : validE (byE bs t.1).1 (byE bs t.1).2 = true) : inv bs c ts (j + 1) (timesE st (byE bs t.1) t.2) := by
  have hlt := (List.getElem?_eq_some_iff.1 ht).1
  have hsz := hts t (List.mem_of_getElem? ht)
  obtain ⟨_, l1, _, _⟩ := valid_parts hv
  refine ⟨by omega, ?_, fun h => by omega, L29.times_S _ h.srt, ?_, L29.times_all (P := fun v => v.size ≤ 1000000) _ _ h.sz (by_small hb hsz).2⟩
  · rw [h.sub, sub_step bs st ht, if_pos hv]
  · have h1 := timesT_len t.2 (byE bs t.1).2 st.2
    have h2 := h.len
    show (timesT t.2 (byE bs t.1).2 st.2).length ≤ _
    omega
theorem rsubst_res (c : Int) (ts : List Tm) (bs : List Bd) (hb : okB bs) (hl : ts.length ≤ 100) (hts : ∀ t ∈ ts, t.1.size ≤ 1000000) (hv : validE c ts = true) (res : AV) (hN : subR bs ts (c, []) = none → res = .tup [.agg [I 0, .nils], I 1]) (hR' : ∀ st, subR bs ts (c, []) = some st → res = linR (limE st)) : Meets Tryz.prog 22 [ln c ts, bds bs] res := by
  have hsm : small ts := ⟨by omega, hts⟩
  refine meets_of (X := true) Ty.mixed Tryz.func22 (by kernel_rfl) rfl (by kernel_rfl) (by simp) ?_; rw [Tryz.ntmps22, Tryz.results22]
  simp only [zL,zU,zH,zo,zj,zx,isCallV,yag,yah,zD,zP,zM,zZ,zw,pureOp,apureO,astepO,killT,aev,cv,cvc,zT,zQ,cellsA,cellOk,argT,isC,bsD,zd,↓reduceIte,za,zg,zh,zz,zB,zW,zR,zr,zi,zy,zK,zO,zf,zl,Value.oneCell',true_and,and_self,Nat.reduceAdd,Nat.reduceEqDiff,zu,zA,zE,Ty.td24]
  refine call_meets (rvalid c ts hsm) (by simp only [aev,cv,cvc,yaa,zV,yan,zG,zN,zI,isC,bsD,zk] <;> rfl) ?_; simp only [zY,zH,zo,zj,zx,zD,zM,zZ,zw,pureOp,apureO,killT,aev,cv,cvc,yax,yaj,yai,yaq,yab,zX,isC,bsD,↓reduceIte,zr,zS,zJ]
  simp only [yap,zL,zU,awp_block,awp_loop,zH,zo,zj,zx,isCallV,zD,zP,zM,yac,zZ,zw,slot.eq_1,pureOp,apureO,astepO,killT,aev,cv,cvc,zT,zQ,storeA,cellsA,cellOk,setAll,fillA,placeT,placesA,yau,isC,bsD,zd,↓reduceIte,za,zb,zg,zh,zz,zB,zW,zR,zp,zq,zK,zO,zF,zf,zl,yay,Value.oneCell',true_and,and_true,and_self,ne_eq,not_false_eq_true,reduceCtorEq,Nat.reduceAdd,Nat.reduceLeDiff,Nat.reduceEqDiff,zu,zA,Ty.td3,Ty.td22,Ty.td24,hv]
  refine loop_g (fun a : Nat × Int × List Tm => inv bs c ts a.1 a.2) (fun a => ⟨55, [(7, I a.1), (6, .ptr 2 0), (5, I 0), (4, .ptr 1 0), (2, .ptr 0 0), (1, bds bs)], hR c ts a.2.1 (tv a.1 a.2.2)⟩) (fun a => ts.length - a.1) (0, c, []) ⟨Nat.zero_le _, rfl, fun _ => rfl, trivial, by simp, by simp⟩ (by simp only [zw,aev,cv,cvc,Weak,isC,bsD,↓reduceIte,zF,zl,and_true,and_self,reduceCtorEq,Nat.reduceEqDiff]; rfl) rfl (.inl rfl) ?_
  rintro ⟨j, c1, l1⟩ hi K hK
  simp only at hi ⊢
  have hle := hi.le
  by_cases hlt : j < ts.length
  case neg =>
    have h0 : ts.drop j = [] := List.drop_eq_nil_of_le (by omega)
    have hr := hi.sub
    rw [h0] at hr
    have hlim := rlimited c1 l1 ⟨by have := hi.len; simp only at this; omega, hi.sz⟩
    simp only [zL,zU,zY,awp_exit,zH,seqQ_e,loopQ_e,blkQ_e,zo,zj,zx,isCallV,yag,yah,zD,zM,zw,pureOp,apureO,aev,cv,cvc,binK,zT,lenA,lenK,zQ,yau,mlenA_sl,isC,bsD,zd,↓reduceIte,za,zb,zg,zh,zz,zB,zr,zi,zy,zf,true_and,ne_eq,not_false_eq_true,reduceCtorEq,Nat.reduceAdd,Nat.reduceEqDiff,zu,yaf,zA,zE,Ty.td22,Ty.td24,show decide ((j : Int) < (ts.length : Int)) = false from decide_eq_false (by omega),yar]
    cases j with
    | zero =>
      obtain ⟨rfl, rfl⟩ := Prod.mk.inj (hi.nil rfl)
      have hlimN : Meets Tryz.prog 40 [.agg [I c1, .nils]] (linR (limE (c1, []))) := of_args hlim fun ok w l h => cons_imp (fun u h => lnN h) (fun _ h => h) h
      simp only [tv,if_true]
      refine call_meets (hlimN) (by simp only [aev,cv,cvc,yaa,toD_nils,zV,zG,zN,zI,isC,bsD,zk] <;> rfl) ?_; simp only [yas,zH,zo,zj,zx,isCallV,zD,zP,zM,yac,zZ,zw,yat,pureOp,apureO,astepO,killT,aev,cv,cvc,zT,zQ,storeA,cellsA,cellOk,setAll,yax,flat_tup,flat_agg,flat_sl,flatL_nil,yaz,yaj,ownsV_nils,yai,yab,zX,yaa,yaB,zV,yan,zG,zN,zI,notExit,yao,yav,yad,oneA_2,isC,bsD,zd,↓reduceIte,za,zb,zg,zh,zr,zp,zq,zk,zi,zy,zF,zf,yak,zl,zS,true_and,and_true,and_self,Nat.reduceAdd,Nat.reduceEqDiff,zu,zJ,zA,zE,Ty.td24]
      rw [hR' _ hr]
    | succ j =>
      simp only [tv,Nat.add_one_ne_zero,if_false]
      refine call_meets (hlim) (by simp only [aev,cv,cvc,yaa,zV,yan,zG,zN,zI,isC,bsD,zk] <;> rfl) ?_; simp only [yas,zH,zo,zj,zx,isCallV,zD,zP,zM,yac,zZ,zw,yat,pureOp,apureO,astepO,killT,aev,cv,cvc,zT,zQ,storeA,cellsA,cellOk,setAll,yax,flat_tup,flat_agg,flat_sl,flatL_nil,yaz,yaj,yai,yaq,yab,zX,yaa,yaB,zV,yan,zG,zN,zI,notExit,yao,yav,yad,oneA_2,isC,bsD,zd,↓reduceIte,za,zb,zg,zh,zr,zp,zq,zk,zi,zy,zF,zf,yak,zl,zS,true_and,and_true,and_self,Nat.reduceAdd,Nat.reduceEqDiff,zu,zJ,zA,zE,Ty.td24]
      rw [hR' _ hr]
  have ht : ts[j]? = some ts[j] := List.getElem?_eq_getElem hlt
  generalize ts[j] = t at *
  have hstep := inv_step hi hb ht hts
  have hsz := hts t (List.mem_of_getElem? ht)
  have hss := sub_step bs (c1, l1) ht
  rw [← hi.sub] at hss
  have hby := by_small hb hsz
  have hbound := rbound bs t.1 (by have := hb.1; omega)
  have fin : ∀ (xc : Int) (xt : List Tm), byE bs t.1 = (xc, xt) → xt.length ≤ 12 → Meets Tryz.prog 41 [.agg [I c1, tv j l1], ln xc xt, I t.2] (ln (timesE (c1, l1) (xc, xt) t.2).1 (timesE (c1, l1) (xc, xt) t.2).2) := by
    intro xc xt _ hx
    cases j with
    | zero =>
      obtain ⟨rfl, rfl⟩ := Prod.mk.inj (hi.nil rfl)
      exact rtimesN c1 xc xt t.2 (by omega)
    | succ j => exact rtimes c1 l1 xc xt t.2 hi.srt (by have := hi.len; simp only at this; omega) (by omega)
  have hd : ∀ h, toD h (tv j l1) = some (tv j l1) := fun h => by cases j <;> simp [tv, toD]
  have ho : ownsV (tv j l1) = [] := by cases j <;> simp [tv, ownsV]
  generalize tv j l1 = x1 at fin hd ho ⊢
  simp only [yap,zL,zU,zY,awp_block,zH,zo,zj,zx,isCallV,yag,yah,zD,zP,zM,yac,zZ,zw,pureOp,apureO,astepO,killT,aev,cv,cvc,binK,zT,lenA,lenK,loadA_d,zQ,storeA,cellsA,cellOk,setAll,yaA,mlenA_sl,isC,bsD,yae,zd,↓reduceIte,za,zb,zg,zh,zz,zB,zW,zR,zr,zp,zq,zk,zi,zK,zO,zf,zl,Value.oneCell',true_and,and_self,ne_eq,not_false_eq_true,reduceCtorEq,Nat.reduceAdd,Nat.reduceEqDiff,zu,yal,yaf,zA,zE,Ty.td9,Ty.td22,Ty.td24,Ty.td42,show decide ((j : Int) < (ts.length : Int)) = true from decide_eq_true (by omega),yam,yar,ht]
  refine call_meets (hbound) (by simp only [aev,cv,cvc,yaa,yan,zG,zN,zI,isC,bsD] <;> rfl) ?_; simp only [zj,zx,zD,zM,zZ,zw,pureOp,apureO,killT,aev,cv,cvc,yaj,yaq,yab,zX,isC,bsD,↓reduceIte,zr,zS,zJ]
  unfold boundV
  cases hf : bs.find? (hitB t.1) with
  | none =>
    have hbe : byE bs t.1 = (0, [(t.1, 1)]) := by unfold byE; rw [hf]
    rw [hbe] at hstep hss hby
    simp only at hby
    simp only [zL,zU,zY,zH,zo,zj,zx,isCallV,yag,yah,zD,zP,zM,yac,zZ,zw,pureOp,apureO,astepO,killT,aev,cv,cvc,zT,zQ,storeA,cellsA,cellOk,setAll,yaA,isC,bsD,zd,↓reduceIte,za,zb,zg,zh,zz,zB,zW,zR,zr,zp,zq,zK,zO,zf,zl,yaw,Value.oneCell',true_and,and_self,ne_eq,not_false_eq_true,reduceCtorEq,Nat.reduceAdd,Nat.reduceEqDiff,zu,zA,Ty.td9,Ty.td24,Ty.td42]
    refine call_meets (rvar t.1) (by simp only [aev,cv,cvc,yaa,zG,zN,zI,isC,bsD] <;> rfl) ?_; simp only [zL,zU,zH,zo,zj,zx,isCallV,yag,yah,zD,zP,zM,yac,zZ,zw,pureOp,apureO,astepO,killT,aev,cv,cvc,zT,zQ,storeA,cellsA,cellOk,setAll,yax,flat_agg,flat_sl,flatL_nil,yaz,yaj,yab,zX,isC,bsD,zd,↓reduceIte,za,zb,zg,zh,zz,zB,zr,zp,zq,zi,zy,zF,zf,yak,zS,true_and,and_true,Nat.reduceAdd,Nat.reduceEqDiff,zu,zJ,zA,zE,Ty.td24]
    refine call_meets (rvalid 0 [(t.1, 1)] ⟨by simp, hby.2⟩) (by simp only [aev,cv,cvc,yaa,zV,yan,zG,zN,zI,isC,bsD,zz,zB,zk] <;> rfl) ?_; simp only [zY,zH,zo,zj,zx,zD,zM,zZ,zw,pureOp,apureO,killT,aev,cv,cvc,yax,yaj,yai,yaq,yab,zX,isC,bsD,↓reduceIte,zr,zS,zJ]
    cases hvy : validE 0 [(t.1, 1)] with
    | false =>
      rw [hvy] at hss
      simp only [zL,zU,yas,zH,seqQ_r,loopQ_r,blkQ_r,zo,zj,zx,isCallV,zD,zP,zM,yac,zw,slot.eq_1,yat,pureOp,apureO,astepO,killT,aev,cv,cvc,zT,zQ,storeA,cellsA,cellOk,setAll,fillA,placeT,placesA,yaA,yaa,toD_nils,yaB,zV,zG,zN,zI,notExit,yao,yav,yad,oneA_2,isC,bsD,zd,↓reduceIte,za,zb,zg,zh,zz,zB,zp,zq,zk,zi,zy,zK,zO,zf,zl,yaw,Value.oneCell',true_and,and_self,ne_eq,not_false_eq_true,reduceCtorEq,Nat.reduceAdd,Nat.reduceEqDiff,zu,zA,zE,Ty.td3,Ty.td22,Ty.td24,hvy]
      rw [hN (by rw [hss]; rfl)]
    | true =>
      simp only [yap,zL,zH,zj,zx,isCallV,yag,yah,zD,zM,zw,pureOp,apureO,aev,cv,cvc,zT,zQ,yau,isC,bsD,zd,↓reduceIte,za,zb,zg,zh,zz,zB,zr,zi,zy,zf,yay,true_and,ne_eq,not_false_eq_true,reduceCtorEq,Nat.reduceAdd,Nat.reduceEqDiff,zu,zA,zE,Ty.td3,Ty.td24,Ty.td42,hvy]
      refine call_meets (fin 0 [(t.1, 1)] hbe (by simp)) (by simp only [aev,cv,cvc,yaa,zV,yan,zG,zN,zI,isC,bsD,zz,zB,zk,hd,ho] <;> rfl) ?_; simp only [zL,zH,loopQ_n,blkQ_n,zo,zj,zx,isCallV,zD,zP,zM,yac,zZ,zw,pureOp,apureO,astepO,killT,aev,cv,cvc,binK,zT,storeA,cellsA,cellOk,setAll,yax,flat_agg,flat_sl,flatL_nil,yaz,yaj,yai,yaq,yab,zX,isC,bsD,zd,↓reduceIte,za,zb,zg,zh,zr,zp,zq,zF,zf,yak,zS,true_and,and_true,Nat.reduceAdd,Nat.reduceEqDiff,zu,zJ,zA,Ty.td24,hd,ho]
      rw [wrap_in (x := (j : Int) + 1) (by omega) (by omega)]
      refine hK (j + 1, timesE (c1, l1) (0, [(t.1, 1)]) t.2) _ (hstep hvy) (by simp only; omega) ?_ rfl (.trim rfl rfl rfl)
      simp only [zw,aev,cv,cvc,Weak,isC,bsD,↓reduceIte,zF,zl,and_true,and_self,Nat.reduceEqDiff]
      simp
  | some b =>
    have hbe : byE bs t.1 = (b.c, b.ts) := by unfold byE; rw [hf]
    rw [hbe] at hstep hss hby
    simp only at hby
    simp only [yap,zL,zU,zY,zH,zo,zj,zx,isCallV,yag,yah,zD,zP,zM,yac,zZ,zw,pureOp,apureO,astepO,killT,aev,cv,cvc,zT,zQ,storeA,cellsA,cellOk,setAll,yau,isC,bsD,zd,↓reduceIte,za,zb,zg,zh,zz,zB,zW,zR,zr,zp,zq,zi,zy,zK,zO,zf,zl,yay,Value.oneCell',true_and,and_self,Nat.reduceAdd,Nat.reduceEqDiff,zu,zA,zE,Ty.td24]
    refine call_meets (rvalid b.c b.ts ⟨by have := hby.1; omega, hby.2⟩) (by simp only [aev,cv,cvc,yaa,zV,yan,zG,zN,zI,isC,bsD,zk] <;> rfl) ?_; simp only [zY,zH,zo,zj,zx,zD,zM,zZ,zw,pureOp,apureO,killT,aev,cv,cvc,yax,yaj,yai,yaq,yab,zX,isC,bsD,↓reduceIte,zr,zS,zJ]
    cases hvy : validE b.c b.ts with
    | false =>
      rw [hvy] at hss
      simp only [zL,zU,yas,zH,seqQ_r,loopQ_r,blkQ_r,zo,zj,zx,isCallV,zD,zP,zM,yac,zw,slot.eq_1,yat,pureOp,apureO,astepO,killT,aev,cv,cvc,zT,zQ,storeA,cellsA,cellOk,setAll,fillA,placeT,placesA,yaA,yaa,toD_nils,yaB,zV,zG,zN,zI,notExit,yao,yav,yad,oneA_2,isC,bsD,zd,↓reduceIte,za,zb,zg,zh,zz,zB,zp,zq,zk,zi,zy,zK,zO,zf,zl,yaw,Value.oneCell',true_and,and_self,ne_eq,not_false_eq_true,reduceCtorEq,Nat.reduceAdd,Nat.reduceEqDiff,zu,zA,zE,Ty.td3,Ty.td22,Ty.td24,hvy]
      rw [hN (by rw [hss]; rfl)]
    | true =>
      simp only [yap,zL,zH,zj,zx,isCallV,yag,yah,zD,zM,zw,pureOp,apureO,aev,cv,cvc,zT,zQ,yau,isC,bsD,zd,↓reduceIte,za,zb,zg,zh,zz,zB,zr,zi,zy,zf,yay,true_and,ne_eq,not_false_eq_true,reduceCtorEq,Nat.reduceAdd,Nat.reduceEqDiff,zu,zA,zE,Ty.td3,Ty.td24,Ty.td42,hvy]
      refine call_meets (fin b.c b.ts hbe (valid_parts hvy).2.1) (by simp only [aev,cv,cvc,yaa,zV,yan,zG,zN,zI,isC,bsD,zk,hd,ho] <;> rfl) ?_; simp only [zL,zH,loopQ_n,blkQ_n,zo,zj,zx,isCallV,zD,zP,zM,yac,zZ,zw,pureOp,apureO,astepO,killT,aev,cv,cvc,binK,zT,storeA,cellsA,cellOk,setAll,yax,flat_agg,flat_sl,flatL_nil,yaz,yaj,yai,yaq,yab,zX,isC,bsD,zd,↓reduceIte,za,zb,zg,zh,zr,zp,zq,zF,zf,yak,zS,true_and,and_true,Nat.reduceAdd,Nat.reduceEqDiff,zu,zJ,zA,Ty.td24,hd,ho]
      rw [wrap_in (x := (j : Int) + 1) (by omega) (by omega)]
      refine hK (j + 1, timesE (c1, l1) (b.c, b.ts) t.2) _ (hstep hvy) (by simp only; omega) ?_ rfl (.trim rfl rfl rfl)
      simp only [zw,aev,cv,cvc,Weak,isC,bsD,↓reduceIte,zF,zl,and_true,and_self,Nat.reduceEqDiff]
      simp

theorem rsubst (c : Int) (ts : List Tm) (bs : List Bd) (hb : okB bs) (hl : ts.length ≤ 100) (hts : ∀ t ∈ ts, t.1.size ≤ 1000000) : Meets Tryz.prog 22 [ln c ts, bds bs] (linR (substR c ts bs)) := by
  unfold substR
  cases hv : validE c ts with
  | false =>
    refine Meets.weak (r0 := .tup [.agg [I 0, .nils], I 1]) ?_ fun ok w v h => zero_imp h
    refine meets_of (X := true) Ty.mixed Tryz.func22 (by kernel_rfl) rfl (by kernel_rfl) (by simp) ?_; rw [Tryz.ntmps22, Tryz.results22]
    simp only [zL,zU,zH,zo,zj,zx,isCallV,yag,yah,zD,zP,zM,zZ,zw,pureOp,apureO,astepO,killT,aev,cv,cvc,zT,zQ,cellsA,cellOk,argT,isC,bsD,zd,↓reduceIte,za,zg,zh,zz,zB,zW,zR,zr,zi,zy,zK,zO,zf,zl,Value.oneCell',true_and,and_self,Nat.reduceAdd,Nat.reduceEqDiff,zu,zA,zE,Ty.td24]
    refine call_meets (rvalid c ts ⟨by omega, hts⟩) (by simp only [aev,cv,cvc,yaa,zV,yan,zG,zN,zI,isC,bsD,zk] <;> rfl) ?_; simp only [zY,zH,zo,zj,zx,zD,zM,zZ,zw,pureOp,apureO,killT,aev,cv,cvc,yax,yaj,yai,yaq,yab,zX,isC,bsD,↓reduceIte,zr,zS,zJ]
    simp only [zL,zU,yas,zH,seqQ_r,zo,zj,zx,isCallV,zD,zP,zM,yac,zw,slot.eq_1,yat,pureOp,apureO,astepO,killT,aev,cv,cvc,zT,zQ,storeA,cellsA,cellOk,setAll,fillA,placeT,placesA,yaA,yaa,toD_nils,yaB,zV,zG,zN,zI,notExit,yao,yav,yad,oneA_2,isC,bsD,zd,↓reduceIte,za,zb,zg,zh,zz,zB,zp,zq,zk,zi,zy,zK,zO,zf,zl,yaw,Value.oneCell',true_and,and_self,ne_eq,not_false_eq_true,reduceCtorEq,Nat.reduceAdd,Nat.reduceEqDiff,zu,zA,zE,Ty.td3,Ty.td22,Ty.td24,hv]
  | true =>
    simp only [if_true]
    cases h : subR bs ts (c, []) with
    | none => exact Meets.weak (rsubst_res c ts bs hb hl hts hv (.tup [.agg [I 0, .nils], I 1]) (fun _ => rfl) (fun st hs => by rw [h] at hs; cases hs)) fun ok w v h => zero_imp h
    | some st => exact rsubst_res c ts bs hb hl hts hv _ (fun hn => by rw [h] at hn; cases hn) (fun st' hs => by rw [h] at hs; cases hs; rfl)

end Go.Proofs.YtjgaebomcdkohaaGreatDoor.L32
