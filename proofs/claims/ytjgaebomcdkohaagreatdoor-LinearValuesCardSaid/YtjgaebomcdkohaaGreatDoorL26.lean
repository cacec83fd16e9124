/- Linear expressions: the reference's Plus, in the program. -/
import Derived.Test.YtjgaebomcdkohaaGreatDoorL25
namespace Go.Proofs.YtjgaebomcdkohaaGreatDoor.L26
open Go Go.Proofs.YtjgaebomcdkohaaGreatDoor.Eng Go.Proofs.YtjgaebomcdkohaaGreatDoor Go.RowKit Go.Proofs.YtjgaebomcdkohaaGreatDoor.L1 Go.Proofs.YtjgaebomcdkohaaGreatDoor.L2 Go.Proofs.YtjgaebomcdkohaaGreatDoor.L3 Go.Proofs.YtjgaebomcdkohaaGreatDoor.L16 Go.Proofs.YtjgaebomcdkohaaGreatDoor.L17 Go.Proofs.YtjgaebomcdkohaaGreatDoor.L19 Go.Proofs.YtjgaebomcdkohaaGreatDoor.L20 Go.Proofs.YtjgaebomcdkohaaGreatDoor.L25
open _root_.List renaming getElem?_cons_zero → za, getElem?_cons_succ → zb, length_cons → zd, length_nil → zf, set_cons_zero → zk, set_cons_succ → zl, take_succ_cons → zq, cons_append → zw, nil_append → zy, take_nil → zB, drop_zero → zE, map_cons → zM, all_cons → zO, length_map → zQ, map_nil → zT, all_nil → zU, range_succ → zW, range_zero → zX, getElem?_map → zY, getElem?_toArray → yab, getElem?_nil → yaf, not_mem_nil → yaj, mem_cons → yat
open _root_.Bool renaming false_eq_true → zg, true_and → zh, and_self → zi, and_true → zo, not_true → yal, or_false → yam, not_false → yao
open _root_.Nat renaming zero_add → zj, le_refl → zA
open _root_.Go.Proofs.YtjgaebomcdkohaaGreatDoor.Eng renaming slot_is → zp, awpOps_nil → zr, awpOps_one → zu, awpOp_is → zz, putK_is → zD, awp_cond → zF, seqQ_n → zG, awp_reg → zJ, loadA_p → zK, elO_s → zN, put_s → zP, awp_seq → zR, awp_skip → zV, updK_is → zZ, condA_f → yaa, isDL_cons → yad, isDL_nil → yae, condA_t → yag, loopQ_n → yah, upd_n → yak, blkQ_n → yan, awp_block → yap, upd_s → yaq, bsEnd_is → yar, appA_own → yas, isD_c → yau, killV_nils → yav, killL_cons → yaw, awpOps_if → yax, killV_agg → yay, killV_own → yaz, killV_ptr → yaA, killL_nil → yaB, mlenA_own → yaC, killV_dptr → yaD, elO_none → yaE, killV_sl → yaF, awp_exit → yaG
open _root_.Option renaming map_some → zx, isSome_some → zI, getD_some → zS, map_none → yac, bind_some → yai
open _root_.Int renaming natCast_nonneg → zH, toNat_natCast → zL
set_option linter.unusedSimpArgs false
set_option linter.unusedVariables false
set_option linter.unusedSectionVars false
set_option maxRecDepth 100000

abbrev slV5 (o : List Tm) : AV := if o = [] then .nils else .own 5 2 o.length
abbrev hP5 (c : Int) (ts o : List Tm) : Heap := [some (.var 24 [I c, tms ts]), some (.var 24 [I 0, .nils]), some (.var 24 [I c, slV5 o])] ++ if o = [] then [] else [none, none, some (.row 42 2 (o.map tmV))]
abbrev hQ4 (c : Int) (ts q : List Tm) : Heap := [some (.var 24 [I c, tms ts]), some (.var 24 [I 0, .nils]), some (.var 24 [I c, .own 4 2 q.length]), none, some (.row 42 2 (q.map tmV))]
abbrev hQ5 (c : Int) (ts q : List Tm) : Heap := [some (.var 24 [I c, tms ts]), some (.var 24 [I 0, .nils]), some (.var 24 [I c, .own 5 2 q.length]), none, none, some (.row 42 2 (q.map tmV))]

/-- The terms packed in place: the first k are those that stay of the first i. -/
def pk (p : List Tm) (k i : Nat) (q : List Tm) : Prop := k ≤ i ∧ i ≤ p.length ∧ q.length = p.length ∧ q.take k = (p.take i).filter (fun t => !decide (t.2 = 0)) ∧ q.drop i = p.drop i
theorem pk_0 (p : List Tm) : pk p 0 0 p := ⟨Nat.le_refl _, Nat.zero_le _, rfl, rfl, rfl⟩
section
variable {p q : List Tm} {k i : Nat} {t : Tm} (h : pk p k i q) (ht : p[i]? = some t)
include h ht
theorem pk_get : q[i]? = some t := by
  have e := congrArg (fun l => l[0]?) h.2.2.2.2
  simp only [List.getElem?_drop,Nat.add_zero] at e
  rw [e, ht]
theorem pk_take : p.take (i + 1) = p.take i ++ [t] := by
  obtain ⟨h1, rfl⟩ := List.getElem?_eq_some_iff.1 ht
  exact (List.take_append_getElem h1).symm
theorem pk_drop (h0 : t.2 = 0) : pk p k (i + 1) q := by
  obtain ⟨h1, h2, h3, h4, h5⟩ := h
  have hl := (List.getElem?_eq_some_iff.1 ht).1
  refine ⟨by omega, by omega, h3, ?_, ?_⟩
  · rw [pk_take ⟨h1, h2, h3, h4, h5⟩ ht, List.filter_append, h4]
    simp [h0]
  · rw [← List.drop_drop, h5, List.drop_drop]
theorem pk_keep (h0 : ¬ t.2 = 0) : pk p (k + 1) (i + 1) (q.set k t) := by
  have e := pk_take h ht
  obtain ⟨h1, h2, h3, h4, h5⟩ := h
  have hl := (List.getElem?_eq_some_iff.1 ht).1
  refine ⟨by omega, by omega, by rw [List.length_set, h3], ?_, ?_⟩
  · rw [e, List.filter_append, ← h4]
    have hk : k < (q.set k t).length := by rw [List.length_set]; omega
    rw [← List.take_append_getElem hk, List.take_set_of_le (Nat.le_refl _), List.getElem_set_self]
    simp [h0]
  · rw [List.drop_set_of_lt (by omega), ← List.drop_drop, h5, List.drop_drop]
end
theorem pk_end {p q : List Tm} {k i : Nat} (h : pk p k i q) (hi : p.length ≤ i) : q.take k = p.filter (fun t => !decide (t.2 = 0)) := by
  rw [h.2.2.2.1, List.take_of_length_le hi]
set_option maxHeartbeats 2000000 in
theorem rplus (c : Int) (ts : List Tm) (s : ByteArray) (x : Int) (hr : risT ts) (hl : ts.length ≤ 100000) : Meets Tryz.prog 65 [ln c ts, S s, I x] (ln c (plusT s x ts)) := by
  refine meets_of (X := true) Ty.mixed Tryz.func65 (by kernel_rfl) rfl (by kernel_rfl) (by simp) ?_; rw [Tryz.ntmps65, Tryz.results65]
  simp only [zJ,zR,yap,awp_loop,zG,zr,zu,zz,isCallV,zD,zZ,zP,yak,yaq,zp,slot.eq_1,pureOp,apureO,astepO,killT,aev,cv,cvc,zN,zK,storeA,cellsA,cellOk,setAll,fillA,placeT,placesA,argT,isC,bsD,zg,↓reduceIte,za,zb,zd,zf,zM,zT,zw,zy,zk,zl,zO,zU,zo,zh,zi,Value.oneCell',true_and,and_true,and_self,ne_eq,not_false_eq_true,reduceCtorEq,Nat.reduceAdd,Nat.reduceLeDiff,Nat.reduceEqDiff,zj,zA,Ty.td3,Ty.td22,Ty.td24]
  refine loop_g (fun a : Nat × Bool × List Tm => a.1 ≤ ts.length ∧ half s x ts a.1 a.2.1 a.2.2) (fun a => ⟨100, [(9, I a.1), (8, B a.2.1), (7, .ptr 2 0), (6, .ptr 1 0), (3, .ptr 0 0), (1, S s), (2, I x)], hP5 c ts a.2.2⟩) (fun a => ts.length - a.1) (0, false, []) ⟨Nat.zero_le _, half_0 s x ts⟩ (by simp only [zp,aev,cv,cvc,Weak,isC,bsD,↓reduceIte,zo,zi,and_true,and_self,reduceCtorEq,Nat.reduceEqDiff]; rfl) rfl (.inl rfl) ?_
  rintro ⟨i, put, o⟩ ⟨hi, hh⟩ K hK
  simp only at hi hh ⊢
  by_cases hlt : i < ts.length
  · have ht : ts[i]? = some ts[i] := List.getElem?_eq_getElem hlt
    generalize ts[i] = t at *
    cases o with
    | nil =>
      simp only [hP5,slV5,if_true,List.append_nil]
      simp only [zV,zJ,zR,zF,yap,zG,zr,zu,yax,zz,isCallV,zD,zZ,zP,yak,yaq,zp,pureOp,apureO,astepO,killT,aev,cv,cvc,binK,zN,lenA,lenK,loadA_d,zK,storeA,cellsA,cellOk,setAll,yieldA,yag,mlenA_sl,isC,bsD,zH,zg,↓reduceIte,za,zb,zd,zf,zM,zT,zw,zy,zk,zl,yab,yai,zx,zq,zO,zU,zh,zi,Value.oneCell',true_and,and_self,ne_eq,not_false_eq_true,reduceCtorEq,Nat.reduceAdd,Nat.reduceEqDiff,zj,zL,zI,zA,zB,Ty.td22,Ty.td24,Ty.td42,show decide ((i : Int) < (ts.length : Int)) = true from decide_eq_true (by omega),zY,zQ,ht]
      cases put with
      | true =>
        obtain ⟨h1, h2⟩ := half_put hr ht hh
        have n2 : ¬ bs t.1 = bs s := fun e => List.lt_irrefl (bs s) (by have h3 : bs s < bs t.1 := h1; rw [e] at h3; exact h3)
        simp only [zV,zJ,zR,zF,zG,zr,zu,yax,zz,zD,zP,zp,pureOp,apureO,aev,cv,cvc,binK,zN,zK,yieldA,guardA_tf,yaa,pickA_f,isC,bsD,zg,↓reduceIte,za,zb,zd,zf,yab,yai,zh,yal,true_and,ne_eq,not_false_eq_true,reduceCtorEq,Nat.reduceAdd,Nat.reduceEqDiff,zj,Ty.td9,Ty.td42]
        simp only [zV,zJ,zG,yah,yan,zr,zu,zz,isCallV,zD,zZ,zP,yak,yaq,zp,slot.eq_1,pureOp,apureO,astepO,yar,yas,appV,killT,aev,cv,cvc,binK,zN,yaE,zK,storeA,cellsA,cellOk,setAll,fillA,yaa,elemsA,elemsN,chunk,yau,yae,yad,isC,bsD,zg,↓reduceIte,za,zb,zd,zf,zM,zT,zw,zy,zk,zl,zS,zq,zE,zO,zU,zo,zh,zi,Value.oneCell',true_and,and_true,and_self,ne_eq,not_false_eq_true,reduceCtorEq,Nat.reduceAdd,Nat.reduceMul,Nat.reduceLT,Nat.reduceLeDiff,Nat.reduceEqDiff,Nat.reduceMod,zj,zW,zX,zA,zB,Ty.td22,Ty.td24,Ty.td42,eqS,decide_eq_false n2]
        rw [wrap_in (x := (i : Int) + 1) (by omega) (by omega)]
        skip
        refine hK (i + 1, true, [] ++ [t]) _ ⟨by simp only; omega, h2⟩ (by simp only; omega) ?_ rfl (.weak (by simp [hP5]) (by simp [WeakH, hP5, slV5]) rfl rfl)
        simp only [zp,aev,cv,cvc,Weak,isC,bsD,↓reduceIte,zo,zi,and_true,and_self,Nat.reduceEqDiff]
        simp
      | false =>
        simp only [zF,zG,zr,zu,yax,zz,awpO_is,zD,zP,zp,pureOp,apureO,aev,cv,cvc,binK,zN,zK,yieldA,guardA_tt,pickA_t,isC,bsD,zg,↓reduceIte,za,zb,zd,zf,yab,yai,zh,yao,true_and,ne_eq,not_false_eq_true,reduceCtorEq,Nat.reduceAdd,Nat.reduceEqDiff,zj,Ty.td9,Ty.td42]
        by_cases c1 : ltB s t.1
        · have h2 := half_less hr ht hh c1
          have n1 : ¬ bs t.1 < bs s := fun e => List.lt_irrefl (bs s) (List.lt_trans c1 e)
          have n2 : ¬ bs t.1 = bs s := fun e => List.lt_irrefl (bs s) (by have h3 : bs s < bs t.1 := c1; rw [e] at h3; exact h3)
          simp only [zV,zJ,zR,zF,zG,yah,yan,zr,zu,zz,isCallV,zD,zZ,zP,yak,yaq,zp,slot.eq_1,pureOp,apureO,astepO,yar,yas,appV,killT,killB,killH,aev,cv,cvc,binK,zN,yaE,zK,storeA,cellsA,cellOk,setAll,fillA,placeT,placesA,yag,yaa,elemsA,elemsN,rowE,chunk,yau,yae,yad,killV_c,yav,yay,yaF,yaz,yaD,yaA,yaB,yaw,isC,bsD,zg,↓reduceIte,za,zb,zd,zf,zM,zT,zw,zy,zk,zl,zx,zS,zq,zE,zO,zU,zo,zh,zi,yam,yao,Value.oneCell',true_and,and_true,and_self,ne_eq,not_false_eq_true,reduceCtorEq,Nat.reduceAdd,Nat.reduceMul,Nat.reduceLT,Nat.reduceLeDiff,Nat.reduceEqDiff,Nat.reduceMod,zj,yat,yaj,or_false,zW,zX,zA,zB,yaf,Ty.td3,Ty.td9,Ty.td22,Ty.td24,Ty.td42,lessS,eqS,decide_eq_false n1,decide_eq_false n2]
          rw [wrap_in (x := (i : Int) + 1) (by omega) (by omega)]
          skip
          refine hK (i + 1, true, [] ++ [(s, x), t]) _ ⟨by simp only; omega, h2⟩ (by simp only; omega) ?_ rfl (.weak (by simp [hP5]) (by simp [WeakH, hP5, slV5]) rfl rfl)
          simp only [zp,aev,cv,cvc,Weak,isC,bsD,↓reduceIte,zo,zi,and_true,and_self,Nat.reduceEqDiff]
          simp
        · by_cases c2 : t.1 = s
          · have h2 := half_same hr ht hh c1 c2
            have n1 : ¬ bs t.1 < bs s := fun e => List.lt_irrefl (bs s) (by rw [c2] at e; exact e)
            simp only [zV,zJ,zR,zF,zG,yah,yan,zr,zu,zz,isCallV,zD,zZ,zP,yak,yaq,zp,slot.eq_1,pureOp,apureO,astepO,yar,yas,appV,killT,aev,cv,cvc,binK,zN,zK,storeA,cellsA,cellOk,setAll,fillA,yag,yaa,elemsA,elemsN,chunk,yau,yae,yad,isC,bsD,zg,↓reduceIte,za,zb,zd,zf,zM,zT,zw,zy,zk,zl,zS,zq,zE,zO,zU,zo,zh,zi,Bool.or_true,yal,Value.oneCell',true_and,and_true,and_self,ne_eq,not_false_eq_true,reduceCtorEq,Nat.reduceAdd,Nat.reduceMul,Nat.reduceLT,Nat.reduceLeDiff,Nat.reduceEqDiff,Nat.reduceMod,zj,zW,zX,zA,zB,Ty.td3,Ty.td9,Ty.td22,Ty.td24,Ty.td42,lessS,eqS,decide_eq_false n1,decide_eq_true (congrArg bs c2)]
            rw [wrap_in (x := (i : Int) + 1) (by omega) (by omega)]
            skip
            refine hK (i + 1, true, [] ++ [(s, W (t.2 + x))]) _ ⟨by simp only; omega, h2⟩ (by simp only; omega) ?_ rfl (.weak (by simp [hP5]) (by simp [WeakH, hP5, slV5, c2]) rfl rfl)
            simp only [zp,aev,cv,cvc,Weak,isC,bsD,↓reduceIte,zo,zi,and_true,and_self,Nat.reduceEqDiff]
            simp
          · have h2 := half_more hr ht hh c1 c2
            have n2 : ¬ bs t.1 = bs s := fun e => c2 (bs_inj e)
            have n1 : bs t.1 < bs s := by
              rcases Decidable.em (bs t.1 < bs s) with h | h
              · exact h
              · exact absurd (List.le_antisymm (List.not_lt.1 c1) (List.not_lt.1 h)) n2
            simp only [zV,zJ,zR,zF,zG,yah,yan,zr,zu,zz,isCallV,zD,zZ,zP,yak,yaq,zp,slot.eq_1,pureOp,apureO,astepO,yar,yas,appV,killT,aev,cv,cvc,binK,zN,yaE,zK,storeA,cellsA,cellOk,setAll,fillA,yaa,elemsA,elemsN,chunk,yau,yae,yad,isC,bsD,zg,↓reduceIte,za,zb,zd,zf,zM,zT,zw,zy,zk,zl,zS,zq,zE,zO,zU,zo,zh,zi,yam,yal,Value.oneCell',true_and,and_true,and_self,ne_eq,not_false_eq_true,reduceCtorEq,Nat.reduceAdd,Nat.reduceMul,Nat.reduceLT,Nat.reduceLeDiff,Nat.reduceEqDiff,Nat.reduceMod,zj,or_false,zW,zX,zA,zB,Ty.td9,Ty.td22,Ty.td24,Ty.td42,lessS,eqS,decide_eq_true n1,decide_eq_false n2]
            rw [wrap_in (x := (i : Int) + 1) (by omega) (by omega)]
            skip
            refine hK (i + 1, false, [] ++ [t]) _ ⟨by simp only; omega, h2⟩ (by simp only; omega) ?_ rfl (.weak (by simp [hP5]) (by simp [WeakH, hP5, slV5]) rfl rfl)
            simp only [zp,aev,cv,cvc,Weak,isC,bsD,↓reduceIte,zo,zi,and_true,and_self,Nat.reduceEqDiff]
            simp
    | cons a r =>
      have hol := hh.2.1
      have htk : List.take r.length (List.map tmV r) = List.map tmV r := List.take_of_length_le (by simp)
      have htk2 : List.take (r.length + 1 + 1) (tmV a :: (List.map tmV r ++ [[S s, I x]])) = tmV a :: (List.map tmV r ++ [[S s, I x]]) := List.take_of_length_le (by simp)
      simp only [hP5,slV5,reduceCtorEq,if_false]
      simp only [zV,zJ,zR,zF,yap,zG,zr,zu,yax,zz,isCallV,zD,zZ,zP,yak,yaq,zp,pureOp,apureO,astepO,killT,aev,cv,cvc,binK,zN,lenA,lenK,loadA_d,zK,storeA,cellsA,cellOk,setAll,yieldA,yag,mlenA_sl,isC,bsD,zH,zg,↓reduceIte,za,zb,zd,zf,zM,zT,zw,zy,zk,zl,yab,yai,zx,zq,zO,zU,zh,zi,Value.oneCell',true_and,and_self,ne_eq,not_false_eq_true,reduceCtorEq,Nat.reduceAdd,Nat.reduceEqDiff,zj,zL,zI,zA,zB,Ty.td22,Ty.td24,Ty.td42,show decide ((i : Int) < (ts.length : Int)) = true from decide_eq_true (by omega),zY,zQ,ht]
      cases put with
      | true =>
        obtain ⟨h1, h2⟩ := half_put hr ht hh
        have n2 : ¬ bs t.1 = bs s := fun e => List.lt_irrefl (bs s) (by have h3 : bs s < bs t.1 := h1; rw [e] at h3; exact h3)
        simp only [zV,zJ,zR,zF,zG,zr,zu,yax,zz,zD,zP,zp,pureOp,apureO,aev,cv,cvc,binK,zN,zK,yieldA,guardA_tf,yaa,pickA_f,isC,bsD,zg,↓reduceIte,za,zb,zd,zf,yab,yai,zh,yal,true_and,ne_eq,not_false_eq_true,reduceCtorEq,Nat.reduceAdd,Nat.reduceEqDiff,zj,Ty.td9,Ty.td42]
        simp only [zV,zJ,zG,yah,yan,zr,zu,zz,isCallV,zD,zZ,zP,yak,yaq,zp,slot.eq_1,pureOp,apureO,astepO,yar,yas,appV,killT,killB,killH,aev,cv,cvc,binK,zN,yaE,zK,storeA,cellsA,cellOk,setAll,fillA,yaa,elemsA,elemsN,rowE,chunk,yau,yae,yad,killV_c,yav,killV_tup,yay,yaF,yaz,yaD,yaA,yaB,yaw,isC,bsD,zg,↓reduceIte,za,zb,zd,zf,zM,zT,zw,zy,zk,zl,zx,yac,zS,zq,zE,zO,zU,zo,zh,zi,yam,Value.oneCell',true_and,and_true,and_self,ne_eq,not_false_eq_true,reduceCtorEq,Nat.reduceAdd,Nat.reduceMul,Nat.reduceLT,Nat.reduceLeDiff,Nat.reduceEqDiff,Nat.reduceMod,zj,yat,yaj,or_false,zW,zX,zA,zB,yaf,Ty.td22,Ty.td24,Ty.td42,eqS,decide_eq_false n2,zQ,htk,zw,zd,zf,zA,zy,zj]
        rw [wrap_in (x := (i : Int) + 1) (by omega) (by omega)]
        repeat refine ⟨by simp at hol; omega, ?_⟩
        refine hK (i + 1, true, (a :: r) ++ [t]) _ ⟨by simp only; omega, h2⟩ (by simp only; omega) ?_ rfl (.trim (by simp [hP5, slV5]) rfl rfl)
        simp only [zp,aev,cv,cvc,Weak,isC,bsD,↓reduceIte,zo,zi,and_true,and_self,Nat.reduceEqDiff]
        simp
      | false =>
        simp only [zF,zG,zr,zu,yax,zz,awpO_is,zD,zP,zp,pureOp,apureO,aev,cv,cvc,binK,zN,zK,yieldA,guardA_tt,pickA_t,isC,bsD,zg,↓reduceIte,za,zb,zd,zf,yab,yai,zh,yao,true_and,ne_eq,not_false_eq_true,reduceCtorEq,Nat.reduceAdd,Nat.reduceEqDiff,zj,Ty.td9,Ty.td42]
        by_cases c1 : ltB s t.1
        · have h2 := half_less hr ht hh c1
          have n1 : ¬ bs t.1 < bs s := fun e => List.lt_irrefl (bs s) (List.lt_trans c1 e)
          have n2 : ¬ bs t.1 = bs s := fun e => List.lt_irrefl (bs s) (by have h3 : bs s < bs t.1 := c1; rw [e] at h3; exact h3)
          simp only [zV,zJ,zR,zF,zG,yah,yan,zr,zu,zz,isCallV,zD,zZ,zP,yak,yaq,zp,slot.eq_1,pureOp,apureO,astepO,yar,yas,appV,killT,killB,killH,aev,cv,cvc,binK,zN,yaE,zK,storeA,cellsA,cellOk,setAll,fillA,placeT,placesA,yag,yaa,elemsA,elemsN,rowE,chunk,yau,yae,yad,killV_c,yav,killV_junk,yay,yaF,yaz,yaD,yaA,yaB,yaw,isC,bsD,zg,↓reduceIte,za,zb,zd,zf,zM,zT,zw,zy,zk,zl,zx,yac,zS,zq,zE,zO,zU,zo,zh,zi,yam,yao,Value.oneCell',true_and,and_true,and_self,ne_eq,not_false_eq_true,reduceCtorEq,Nat.reduceAdd,Nat.reduceMul,Nat.reduceLT,Nat.reduceLeDiff,Nat.reduceEqDiff,Nat.reduceMod,zj,yat,yaj,or_false,zW,zX,zA,zB,yaf,Ty.td3,Ty.td9,Ty.td22,Ty.td24,Ty.td42,lessS,eqS,decide_eq_false n1,decide_eq_false n2,zQ,htk,htk2,zw,List.length_append,zd,zf,zA,zy,zj]
          rw [wrap_in (x := (i : Int) + 1) (by omega) (by omega)]
          repeat refine ⟨by simp at hol; omega, ?_⟩
          refine hK (i + 1, true, (a :: r) ++ [(s, x), t]) _ ⟨by simp only; omega, h2⟩ (by simp only; omega) ?_ rfl (.trim (by simp [hP5, slV5]) rfl rfl)
          simp only [zp,aev,cv,cvc,Weak,isC,bsD,↓reduceIte,zo,zi,and_true,and_self,Nat.reduceEqDiff]
          simp
        · by_cases c2 : t.1 = s
          · have h2 := half_same hr ht hh c1 c2
            have n1 : ¬ bs t.1 < bs s := fun e => List.lt_irrefl (bs s) (by rw [c2] at e; exact e)
            simp only [zV,zJ,zR,zF,zG,yah,yan,zr,zu,zz,isCallV,zD,zZ,zP,yak,yaq,zp,slot.eq_1,pureOp,apureO,astepO,yar,yas,appV,killT,killB,killH,aev,cv,cvc,binK,zN,zK,storeA,cellsA,cellOk,setAll,fillA,yag,yaa,elemsA,elemsN,rowE,chunk,yau,yae,yad,killV_c,yav,yay,yaF,yaz,yaD,yaA,yaB,yaw,isC,bsD,zg,↓reduceIte,za,zb,zd,zf,zM,zT,zw,zy,zk,zl,zx,yac,zS,zq,zE,zO,zU,zo,zh,zi,Bool.or_true,yam,yal,Value.oneCell',true_and,and_true,and_self,ne_eq,not_false_eq_true,reduceCtorEq,Nat.reduceAdd,Nat.reduceMul,Nat.reduceLT,Nat.reduceLeDiff,Nat.reduceEqDiff,Nat.reduceMod,zj,yat,yaj,or_false,zW,zX,zA,zB,yaf,Ty.td3,Ty.td9,Ty.td22,Ty.td24,Ty.td42,lessS,eqS,decide_eq_false n1,decide_eq_true (congrArg bs c2),zQ,htk,zw,zd,zf,zA,zy,zj]
            rw [wrap_in (x := (i : Int) + 1) (by omega) (by omega)]
            repeat refine ⟨by simp at hol; omega, ?_⟩
            refine hK (i + 1, true, (a :: r) ++ [(s, W (t.2 + x))]) _ ⟨by simp only; omega, h2⟩ (by simp only; omega) ?_ rfl (.trim (by simp [hP5, slV5, c2]) rfl rfl)
            simp only [zp,aev,cv,cvc,Weak,isC,bsD,↓reduceIte,zo,zi,and_true,and_self,Nat.reduceEqDiff]
            simp
          · have h2 := half_more hr ht hh c1 c2
            have n2 : ¬ bs t.1 = bs s := fun e => c2 (bs_inj e)
            have n1 : bs t.1 < bs s := by
              rcases Decidable.em (bs t.1 < bs s) with h | h
              · exact h
              · exact absurd (List.le_antisymm (List.not_lt.1 c1) (List.not_lt.1 h)) n2
            simp only [zV,zJ,zR,zF,zG,yah,yan,zr,zu,zz,isCallV,zD,zZ,zP,yak,yaq,zp,slot.eq_1,pureOp,apureO,astepO,yar,yas,appV,killT,killB,killH,aev,cv,cvc,binK,zN,yaE,zK,storeA,cellsA,cellOk,setAll,fillA,yaa,elemsA,elemsN,rowE,chunk,yau,yae,yad,killV_c,yav,yay,yaF,yaz,yaD,yaA,yaB,yaw,isC,bsD,zg,↓reduceIte,za,zb,zd,zf,zM,zT,zw,zy,zk,zl,zx,yac,zS,zq,zE,zO,zU,zo,zh,zi,yam,yal,Value.oneCell',true_and,and_true,and_self,ne_eq,not_false_eq_true,reduceCtorEq,Nat.reduceAdd,Nat.reduceMul,Nat.reduceLT,Nat.reduceLeDiff,Nat.reduceEqDiff,Nat.reduceMod,zj,yat,yaj,or_false,zW,zX,zA,zB,yaf,Ty.td9,Ty.td22,Ty.td24,Ty.td42,lessS,eqS,decide_eq_true n1,decide_eq_false n2,zQ,htk,zw,zd,zf,zA,zy,zj]
            rw [wrap_in (x := (i : Int) + 1) (by omega) (by omega)]
            repeat refine ⟨by simp at hol; omega, ?_⟩
            refine hK (i + 1, false, (a :: r) ++ [t]) _ ⟨by simp only; omega, h2⟩ (by simp only; omega) ?_ rfl (.trim (by simp [hP5, slV5]) rfl rfl)
            simp only [zp,aev,cv,cvc,Weak,isC,bsD,↓reduceIte,zo,zi,and_true,and_self,Nat.reduceEqDiff]
            simp
  · -- the loop's end
    cases o with
    | nil =>
      simp only [hP5,slV5,if_true,List.append_nil]
      obtain rfl : ts = [] := List.length_eq_zero_iff.1 (by have := hh.1.2 rfl; omega)
      cases put with
      | true => have := half_end (by simp) hh; simp [insP] at this
      | false =>
        simp only [zJ,zR,zF,yap,awp_loop,yaG,zG,seqQ_e,loopQ_e,blkQ_e,zr,zu,zz,isCallV,zD,zZ,zP,yak,yaq,zp,slot.eq_1,pureOp,apureO,astepO,yar,yas,appV,killT,aev,cv,cvc,binK,zN,lenA,lenK,zK,storeA,cellsA,cellOk,setAll,fillA,placeT,placesA,yag,yaa,elemsA,elemsN,chunk,yau,yae,yad,mlenA_sl,isC,bsD,zg,↓reduceIte,za,zb,zd,zf,zM,zT,zw,zy,zk,zl,zS,zq,zE,zO,zU,zo,zh,zi,yao,Value.oneCell',true_and,and_true,and_self,ne_eq,not_false_eq_true,reduceCtorEq,Nat.reduceAdd,Nat.reduceMul,Nat.reduceLT,Nat.reduceLeDiff,Nat.reduceEqDiff,Nat.reduceMod,zj,zW,zX,zI,zA,zB,Ty.td3,Ty.td9,Ty.td22,Ty.td24,Ty.td42,show decide ((i : Int) < ((0 : Nat) : Int)) = false from decide_eq_false (by omega)]
        have hp : insP s x [] = [(s, x)] := rfl
        unfold plusT
        rw [hp]
        clear hp
        have hpl0 : ([(s, x)]).length ≤ 300000 := by simp
        refine loop_g (fun z : Nat × Nat × List Tm => pk ([(s, x)]) z.1 z.2.1 z.2.2) (fun z => ⟨100, [(12, I z.2.1), (11, I z.1), (7, .ptr 2 0), (6, .ptr 1 0)], hQ4 c [] z.2.2⟩) (fun z => ([(s, x)]).length - z.2.1) (0, 0, [(s, x)]) (pk_0 _) (by simp only [zp,aev,cv,cvc,Weak,isC,bsD,↓reduceIte,zo,zi,and_true,and_self,Nat.reduceEqDiff]; rfl) rfl (.weak (by simp [hQ4]) (by simp [WeakH, hQ4]) rfl rfl) ?_
        rintro ⟨k, i, q⟩ hq K' hK'
        simp only at hq ⊢
        generalize hpp : [(s, x)] = p at hq hK' ⊢
        have hpl : p.length ≤ 300000 := by rw [← hpp]; exact hpl0
        clear hpp
        have hql := hq.2.2.1
        have hqi := hq.2.1
        have hqk := hq.1
        by_cases hlt' : i < p.length
        · have ht : p[i]? = some p[i] := List.getElem?_eq_getElem hlt'
          generalize p[i] = t at *
          have htq := pk_get hq ht
          simp only [zV,zJ,zR,zF,yap,zG,zr,zu,zz,zD,zP,zp,pureOp,apureO,aev,cv,cvc,binK,zN,lenA,lenK,zK,loadA_r,yag,yaC,isC,bsD,zH,zg,↓reduceIte,za,zb,zd,zf,zh,true_and,ne_eq,not_false_eq_true,reduceCtorEq,Nat.reduceAdd,Nat.reduceEqDiff,zj,zL,zI,Ty.td3,Ty.td22,Ty.td24,Ty.td42,show decide ((i : Int) < (q.length : Int)) = true from decide_eq_true (by omega),zY,htq]
          refine ⟨by omega, by omega, ?_⟩
          rw [Nat.mul_div_cancel i (by decide), htq]
          by_cases h0 : t.2 = 0
          · simp only [zV,zJ,zF,zG,yah,yan,zr,zu,zz,zD,zP,zp,pureOp,apureO,aev,cv,cvc,binK,zN,yaa,isC,bsD,↓reduceIte,za,zb,zx,zh,true_and,Nat.reduceEqDiff,show (t.2 != 0) = false by simpa using h0]
            rw [wrap_in (x := (i : Int) + 1) (by omega) (by omega)]
            refine hK' (k, i + 1, q) _ (pk_drop hq ht h0) (by simp only; omega) ?_ rfl (.inl rfl)
            simp only [zp,aev,cv,cvc,Weak,isC,bsD,↓reduceIte,zo,zi,and_true,and_self,Nat.reduceEqDiff]
            rfl
          · simp only [awp_regX,zR,zF,zG,zr,zu,zz,zD,zP,zp,pureOp,apureO,aev,cv,cvc,binK,zN,yag,isC,bsD,↓reduceIte,za,zb,zx,zh,true_and,show (t.2 != 0) = true by simpa using h0]
            refine drawS_tail (by kernel_rfl) ?_; simp only [zJ,zG,yah,yan,zr,zu,awpOpsD_one,zz,isCallV,awpOpD_is,zD,zZ,zP,yak,zp,keepOp,pureOp,apureO,astepO,killT,aev,cv,cvc,binK,zN,zK,loadA_r,storeA,cellsA,cellOk,isC,bsD,zH,zg,↓reduceIte,za,zb,zd,zf,zk,zl,zE,zh,true_and,ne_eq,not_false_eq_true,reduceCtorEq,Nat.reduceAdd,Nat.reduceEqDiff,zj,zL,Ty.td22,Ty.td24,Ty.td42,zY,htq]
            have hkl : k < q.length := by omega
            have htk' : q[k]? = some q[k] := List.getElem?_eq_getElem hkl
            rw [Nat.mul_div_cancel i (by decide), htq, Nat.mul_div_cancel k (by decide), htk']
            simp only [aev,cv,cvc,zN,setAll,yau,yae,yad,isC,bsD,zd,zf,zk,zl,zx,zq,zh,zi,true_and,and_self,Nat.reduceAdd,zj,zA,zB]
            repeat refine ⟨by omega, ?_⟩
            rw [wrap_in (x := (i : Int) + 1) (by omega) (by omega), wrap_in (x := (k : Int) + 1) (by omega) (by omega)]
            refine hK' (k + 1, i + 1, q.set k t) _ (pk_keep hq ht h0) (by simp only; omega) ?_ rfl (.inl ?_)
            · simp only [zp,aev,cv,cvc,Weak,isC,bsD,↓reduceIte,zo,zi,and_true,and_self,Nat.reduceEqDiff]
              simp
            · simp [hQ4]
        · simp only [zJ,zR,zF,yaG,awp_ret,zG,seqQ_e,loopQ_e,blkQ_e,zr,zu,zz,isCallV,zD,zZ,zP,yak,yaq,zp,retA_is,pureOp,apureO,astepO,sliceA_own,sliceP_own,pureK_is,boundsA,killT,aev,cv,cvc,binK,zN,lenA,lenK,zK,storeA,cellsA,cellOk,setAll,yaa,elemsA,toD_c,toD_agg,toD_own,toDL_nil,toDL_cons,notExit,resA_nil,resA_cell,oneA_1,yaC,isC,bsD,zH,zg,↓reduceIte,za,zb,zd,zf,zk,zl,zx,yac,zq,zE,zh,true_and,ne_eq,not_false_eq_true,reduceCtorEq,Nat.reduceAdd,Nat.reduceLeDiff,Nat.reduceEqDiff,zj,zL,zI,zA,zB,Ty.td22,Ty.td24,Ty.td42,show decide ((i : Int) < (q.length : Int)) = false from decide_eq_false (by omega),zQ]
          repeat refine ⟨by omega, ?_⟩
          rw [← pk_end hq (by omega), if_pos (by omega), ← List.map_take]
          rfl
    | cons a r =>
      have hol := hh.2.1
      have he := half_end (by omega) hh
      simp only [hP5,slV5,reduceCtorEq,if_false]
      cases put with
      | true =>
        simp only [zV,zJ,zR,zF,yap,awp_loop,yaG,zG,seqQ_e,loopQ_e,blkQ_e,zr,zu,zz,zD,zP,zp,pureOp,apureO,aev,cv,cvc,binK,zN,lenA,lenK,zK,yaa,mlenA_sl,isC,bsD,zg,↓reduceIte,za,zb,zd,zf,zM,zw,zy,zh,yal,true_and,ne_eq,not_false_eq_true,reduceCtorEq,Nat.reduceAdd,Nat.reduceEqDiff,zj,zI,Ty.td22,Ty.td24,show decide ((i : Int) < (ts.length : Int)) = false from decide_eq_false (by omega),zQ]
        have hp : insP s x ts = a :: r := by rw [he]; rfl
        unfold plusT
        rw [hp]
        clear hp
        have hpl0 : (a :: r).length ≤ 300000 := by simp at hol ⊢; omega
        refine loop_g (fun z : Nat × Nat × List Tm => pk (a :: r) z.1 z.2.1 z.2.2) (fun z => ⟨100, [(12, I z.2.1), (11, I z.1), (7, .ptr 2 0), (6, .ptr 1 0)], hQ5 c ts z.2.2⟩) (fun z => (a :: r).length - z.2.1) (0, 0, a :: r) (pk_0 _) (by simp only [zp,aev,cv,cvc,Weak,isC,bsD,↓reduceIte,zo,zi,and_true,and_self,Nat.reduceEqDiff]; rfl) rfl (.inl rfl) ?_
        rintro ⟨k, i, q⟩ hq K' hK'
        simp only at hq ⊢
        generalize hpp : a :: r = p at hq hK' ⊢
        have hpl : p.length ≤ 300000 := by rw [← hpp]; exact hpl0
        clear hpp
        have hql := hq.2.2.1
        have hqi := hq.2.1
        have hqk := hq.1
        by_cases hlt' : i < p.length
        · have ht : p[i]? = some p[i] := List.getElem?_eq_getElem hlt'
          generalize p[i] = t at *
          have htq := pk_get hq ht
          simp only [zV,zJ,zR,zF,yap,zG,zr,zu,zz,zD,zP,zp,pureOp,apureO,aev,cv,cvc,binK,zN,lenA,lenK,zK,loadA_r,yag,yaC,isC,bsD,zH,zg,↓reduceIte,za,zb,zd,zf,zh,true_and,ne_eq,not_false_eq_true,reduceCtorEq,Nat.reduceAdd,Nat.reduceEqDiff,zj,zL,zI,Ty.td3,Ty.td22,Ty.td24,Ty.td42,show decide ((i : Int) < (q.length : Int)) = true from decide_eq_true (by omega),zY,htq]
          refine ⟨by omega, by omega, ?_⟩
          rw [Nat.mul_div_cancel i (by decide), htq]
          by_cases h0 : t.2 = 0
          · simp only [zV,zJ,zF,zG,yah,yan,zr,zu,zz,zD,zP,zp,pureOp,apureO,aev,cv,cvc,binK,zN,yaa,isC,bsD,↓reduceIte,za,zb,zx,zh,true_and,Nat.reduceEqDiff,show (t.2 != 0) = false by simpa using h0]
            rw [wrap_in (x := (i : Int) + 1) (by omega) (by omega)]
            refine hK' (k, i + 1, q) _ (pk_drop hq ht h0) (by simp only; omega) ?_ rfl (.inl rfl)
            simp only [zp,aev,cv,cvc,Weak,isC,bsD,↓reduceIte,zo,zi,and_true,and_self,Nat.reduceEqDiff]
            rfl
          · simp only [awp_regX,zR,zF,zG,zr,zu,zz,zD,zP,zp,pureOp,apureO,aev,cv,cvc,binK,zN,yag,isC,bsD,↓reduceIte,za,zb,zx,zh,true_and,show (t.2 != 0) = true by simpa using h0]
            refine drawS_tail (by kernel_rfl) ?_; simp only [zJ,zG,yah,yan,zr,zu,awpOpsD_one,zz,isCallV,awpOpD_is,zD,zZ,zP,yak,zp,keepOp,pureOp,apureO,astepO,killT,aev,cv,cvc,binK,zN,zK,loadA_r,storeA,cellsA,cellOk,isC,bsD,zH,zg,↓reduceIte,za,zb,zd,zf,zk,zl,zE,zh,true_and,ne_eq,not_false_eq_true,reduceCtorEq,Nat.reduceAdd,Nat.reduceEqDiff,zj,zL,Ty.td22,Ty.td24,Ty.td42,zY,htq]
            have hkl : k < q.length := by omega
            have htk' : q[k]? = some q[k] := List.getElem?_eq_getElem hkl
            rw [Nat.mul_div_cancel i (by decide), htq, Nat.mul_div_cancel k (by decide), htk']
            simp only [aev,cv,cvc,zN,setAll,yau,yae,yad,isC,bsD,zd,zf,zk,zl,zx,zq,zh,zi,true_and,and_self,Nat.reduceAdd,zj,zA,zB]
            repeat refine ⟨by omega, ?_⟩
            rw [wrap_in (x := (i : Int) + 1) (by omega) (by omega), wrap_in (x := (k : Int) + 1) (by omega) (by omega)]
            refine hK' (k + 1, i + 1, q.set k t) _ (pk_keep hq ht h0) (by simp only; omega) ?_ rfl (.inl ?_)
            · simp only [zp,aev,cv,cvc,Weak,isC,bsD,↓reduceIte,zo,zi,and_true,and_self,Nat.reduceEqDiff]
              simp
            · simp [hQ5]
        · simp only [zJ,zR,zF,yaG,awp_ret,zG,seqQ_e,loopQ_e,blkQ_e,zr,zu,zz,isCallV,zD,zZ,zP,yak,yaq,zp,retA_is,pureOp,apureO,astepO,sliceA_own,sliceP_own,pureK_is,boundsA,killT,aev,cv,cvc,binK,zN,lenA,lenK,zK,storeA,cellsA,cellOk,setAll,yaa,elemsA,toD_c,toD_agg,toD_own,toDL_nil,toDL_cons,notExit,resA_nil,resA_cell,oneA_1,yaC,isC,bsD,zH,zg,↓reduceIte,za,zb,zd,zf,zk,zl,zx,yac,zq,zE,zh,true_and,ne_eq,not_false_eq_true,reduceCtorEq,Nat.reduceAdd,Nat.reduceLeDiff,Nat.reduceEqDiff,zj,zL,zI,zA,zB,Ty.td22,Ty.td24,Ty.td42,show decide ((i : Int) < (q.length : Int)) = false from decide_eq_false (by omega),zQ]
          repeat refine ⟨by omega, ?_⟩
          rw [← pk_end hq (by omega), if_pos (by omega), ← List.map_take]
          rfl
      | false =>
        have htk : List.take r.length (List.map tmV r) = List.map tmV r := List.take_of_length_le (by simp)
        simp only [zJ,zR,zF,yap,awp_loop,yaG,zG,seqQ_e,loopQ_e,blkQ_e,zr,zu,zz,isCallV,zD,zZ,zP,yak,yaq,zp,slot.eq_1,pureOp,apureO,astepO,yar,yas,appV,killT,killB,killH,aev,cv,cvc,binK,zN,lenA,lenK,zK,storeA,cellsA,cellOk,setAll,fillA,placeT,placesA,yag,yaa,elemsA,elemsN,rowE,chunk,yau,yae,yad,killV_c,yav,yay,yaF,yaz,yaA,yaB,yaw,mlenA_sl,isC,bsD,zg,↓reduceIte,za,zb,zd,zf,zM,zT,zw,zy,zk,zl,zx,yac,zS,zq,zE,zO,zU,zo,zh,zi,yam,yao,Value.oneCell',true_and,and_true,and_self,ne_eq,not_false_eq_true,reduceCtorEq,Nat.reduceAdd,Nat.reduceMul,Nat.reduceLT,Nat.reduceLeDiff,Nat.reduceEqDiff,Nat.reduceMod,zj,yat,yaj,or_false,zW,zX,zI,zA,zB,yaf,Ty.td3,Ty.td9,Ty.td22,Ty.td24,Ty.td42,show decide ((i : Int) < (ts.length : Int)) = false from decide_eq_false (by omega),zQ,htk,zw,zd,zf,zA,zy,zj]
        repeat refine ⟨by simp at hol; omega, ?_⟩
        have hp : insP s x ts = a :: r ++ [(s, x)] := by rw [he]; rfl
        unfold plusT
        rw [hp]
        clear hp
        have hpl0 : (a :: r ++ [(s, x)]).length ≤ 300000 := by simp at hol ⊢; omega
        refine loop_g (fun z : Nat × Nat × List Tm => pk (a :: r ++ [(s, x)]) z.1 z.2.1 z.2.2) (fun z => ⟨100, [(12, I z.2.1), (11, I z.1), (7, .ptr 2 0), (6, .ptr 1 0)], hQ5 c ts z.2.2⟩) (fun z => (a :: r ++ [(s, x)]).length - z.2.1) (0, 0, a :: r ++ [(s, x)]) (pk_0 _) (by simp only [zp,aev,cv,cvc,Weak,isC,bsD,↓reduceIte,zo,zi,and_true,and_self,Nat.reduceEqDiff]; rfl) rfl (.trim (by simp [hQ5]) rfl rfl) ?_
        rintro ⟨k, i, q⟩ hq K' hK'
        simp only at hq ⊢
        generalize hpp : a :: r ++ [(s, x)] = p at hq hK' ⊢
        have hpl : p.length ≤ 300000 := by rw [← hpp]; exact hpl0
        clear hpp
        have hql := hq.2.2.1
        have hqi := hq.2.1
        have hqk := hq.1
        by_cases hlt' : i < p.length
        · have ht : p[i]? = some p[i] := List.getElem?_eq_getElem hlt'
          generalize p[i] = t at *
          have htq := pk_get hq ht
          simp only [zV,zJ,zR,zF,yap,zG,zr,zu,zz,zD,zP,zp,pureOp,apureO,aev,cv,cvc,binK,zN,lenA,lenK,zK,loadA_r,yag,yaC,isC,bsD,zH,zg,↓reduceIte,za,zb,zd,zf,zh,true_and,ne_eq,not_false_eq_true,reduceCtorEq,Nat.reduceAdd,Nat.reduceEqDiff,zj,zL,zI,Ty.td3,Ty.td22,Ty.td24,Ty.td42,show decide ((i : Int) < (q.length : Int)) = true from decide_eq_true (by omega),zY,htq]
          refine ⟨by omega, by omega, ?_⟩
          rw [Nat.mul_div_cancel i (by decide), htq]
          by_cases h0 : t.2 = 0
          · simp only [zV,zJ,zF,zG,yah,yan,zr,zu,zz,zD,zP,zp,pureOp,apureO,aev,cv,cvc,binK,zN,yaa,isC,bsD,↓reduceIte,za,zb,zx,zh,true_and,Nat.reduceEqDiff,show (t.2 != 0) = false by simpa using h0]
            rw [wrap_in (x := (i : Int) + 1) (by omega) (by omega)]
            refine hK' (k, i + 1, q) _ (pk_drop hq ht h0) (by simp only; omega) ?_ rfl (.inl rfl)
            simp only [zp,aev,cv,cvc,Weak,isC,bsD,↓reduceIte,zo,zi,and_true,and_self,Nat.reduceEqDiff]
            rfl
          · simp only [awp_regX,zR,zF,zG,zr,zu,zz,zD,zP,zp,pureOp,apureO,aev,cv,cvc,binK,zN,yag,isC,bsD,↓reduceIte,za,zb,zx,zh,true_and,show (t.2 != 0) = true by simpa using h0]
            refine drawS_tail (by kernel_rfl) ?_; simp only [zJ,zG,yah,yan,zr,zu,awpOpsD_one,zz,isCallV,awpOpD_is,zD,zZ,zP,yak,zp,keepOp,pureOp,apureO,astepO,killT,aev,cv,cvc,binK,zN,zK,loadA_r,storeA,cellsA,cellOk,isC,bsD,zH,zg,↓reduceIte,za,zb,zd,zf,zk,zl,zE,zh,true_and,ne_eq,not_false_eq_true,reduceCtorEq,Nat.reduceAdd,Nat.reduceEqDiff,zj,zL,Ty.td22,Ty.td24,Ty.td42,zY,htq]
            have hkl : k < q.length := by omega
            have htk' : q[k]? = some q[k] := List.getElem?_eq_getElem hkl
            rw [Nat.mul_div_cancel i (by decide), htq, Nat.mul_div_cancel k (by decide), htk']
            simp only [aev,cv,cvc,zN,setAll,yau,yae,yad,isC,bsD,zd,zf,zk,zl,zx,zq,zh,zi,true_and,and_self,Nat.reduceAdd,zj,zA,zB]
            repeat refine ⟨by omega, ?_⟩
            rw [wrap_in (x := (i : Int) + 1) (by omega) (by omega), wrap_in (x := (k : Int) + 1) (by omega) (by omega)]
            refine hK' (k + 1, i + 1, q.set k t) _ (pk_keep hq ht h0) (by simp only; omega) ?_ rfl (.inl ?_)
            · simp only [zp,aev,cv,cvc,Weak,isC,bsD,↓reduceIte,zo,zi,and_true,and_self,Nat.reduceEqDiff]
              simp
            · simp [hQ5]
        · simp only [zJ,zR,zF,yaG,awp_ret,zG,seqQ_e,loopQ_e,blkQ_e,zr,zu,zz,isCallV,zD,zZ,zP,yak,yaq,zp,retA_is,pureOp,apureO,astepO,sliceA_own,sliceP_own,pureK_is,boundsA,killT,aev,cv,cvc,binK,zN,lenA,lenK,zK,storeA,cellsA,cellOk,setAll,yaa,elemsA,toD_c,toD_agg,toD_own,toDL_nil,toDL_cons,notExit,resA_nil,resA_cell,oneA_1,yaC,isC,bsD,zH,zg,↓reduceIte,za,zb,zd,zf,zk,zl,zx,yac,zq,zE,zh,true_and,ne_eq,not_false_eq_true,reduceCtorEq,Nat.reduceAdd,Nat.reduceLeDiff,Nat.reduceEqDiff,zj,zL,zI,zA,zB,Ty.td22,Ty.td24,Ty.td42,show decide ((i : Int) < (q.length : Int)) = false from decide_eq_false (by omega),zQ]
          repeat refine ⟨by omega, ?_⟩
          rw [← pk_end hq (by omega), if_pos (by omega), ← List.map_take]
          rfl

end Go.Proofs.YtjgaebomcdkohaaGreatDoor.L26
