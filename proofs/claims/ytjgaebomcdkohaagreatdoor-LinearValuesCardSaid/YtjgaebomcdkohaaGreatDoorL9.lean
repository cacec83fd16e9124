/- Linear expressions: items in the program, whatever the caller's memory. -/
import Derived.Test.YtjgaebomcdkohaaGreatDoorL8
namespace Go.Proofs.YtjgaebomcdkohaaGreatDoor.L9
open Go Go.Proofs.YtjgaebomcdkohaaGreatDoor.Eng Go.Proofs.YtjgaebomcdkohaaGreatDoor Go.RowKit Go.Proofs.YtjgaebomcdkohaaGreatDoor.L1 Go.Proofs.YtjgaebomcdkohaaGreatDoor.L2 Go.Proofs.YtjgaebomcdkohaaGreatDoor.L3 Go.Proofs.YtjgaebomcdkohaaGreatDoor.L4 Go.Proofs.YtjgaebomcdkohaaGreatDoor.L5 Go.Proofs.YtjgaebomcdkohaaGreatDoor.L6 Go.Proofs.YtjgaebomcdkohaaGreatDoor.L7 Go.Proofs.YtjgaebomcdkohaaGreatDoor.L8
open _root_.List renaming getElem?_cons_zero → za, getElem?_cons_succ → zb, append_nil → zd, length_cons → zh, length_nil → zj, map_cons → zk, map_nil → zr, isEmpty_nil → zy, getElem?_toArray → yaa, set_cons_zero → yaf
open _root_.Bool renaming false_eq_true → zf, true_and → zg, or_true → zE, and_false → zU, and_true → zY, not_true → yau, not_false → yaA
open _root_.Go.Proofs.YtjgaebomcdkohaaGreatDoor.Eng renaming awpOps_one → zi, awpOps_nil → zl, slot_is → zo, putK_is → zp, awpOp_is → zq, put_s → zw, awp_seq → zx, nilA_ptr → zz, seqQ_n → zA, awp_reg → zB, loadA_p → zD, elO_s → zF, callW_is → zG, callV_is → zH, unshift_shift → zI, awpOpsN_one → zJ, consO_some → zK, ownsL_cons → zL, toDL_cons → zN, ownsL_nil → zO, awpOpD_is → zP, toDL_nil → zQ, ownsV_c → zT, resA_nil → zW, resA_tmp → zX, awp_cond → zZ, flat_c → yab, flatL_cons → yac, awp_ret → yad, inlQ_is → yae, flatL_nil → yag, retT_s → yah, toD_c → yai, callWD_is → yak, callVD_is → yal, awpOpsN_0 → yam, awp_skip → yan, upd_s → yao, sliceA_s → yap, sliceP_c → yaq, pureK_is → yar, awp_regX → yas, flat_agg → yat, oneA_1 → yav, condA_f → yaw, condA_t → yax, updK_is → yay, flat_sl → yaz, seqQ_r → yaB, awpOps_if → yaC
open _root_.Nat renaming zero_add → zu
open _root_.Option renaming map_some → zM, map_none → zR, bind_some → yaj
open _root_.Int renaming natCast_nonneg → zS, toNat_natCast → zV
set_option linter.unusedSimpArgs false
set_option linter.unusedVariables false
set_option linter.unusedSectionVars false
set_option maxRecDepth 100000

abbrev AtoiOk : Prop := ∀ l : List UInt8, 0 < l.length → l.length ≤ 7 → (∀ b ∈ l, digI b.toNat = true) → Meets Tryz.prog 124 [SL l] (.tup [I (numE l), .c .nilIface])

theorem span0 (l : List UInt8) (hl : l.length ≤ 1000000) : Meets Tryz.prog 111 [SL l, I 0, .fn 114 []] (I (spanN nbI l : Nat)) := by
  have := span_nb (ofL l) (by rw [ofL_size]; exact hl) 0 (Nat.zero_le _)
  rwa [bs_ofL, List.drop_zero, Nat.zero_add] at this
theorem span1 (l : List UInt8) (hl : l.length ≤ 1000000) (h1 : 1 ≤ l.length) : Meets Tryz.prog 111 [SL l, I 1, .fn 114 []] (I (1 + spanN nbI (l.drop 1) : Nat)) := by
  have := span_nb (ofL l) (by rw [ofL_size]; exact hl) 1 (by rw [ofL_size]; exact h1)
  rwa [bs_ofL] at this
theorem spanD (l : List UInt8) (hl : l.length ≤ 1000000) : Meets Tryz.prog 111 [SL l, I 0, .fn 112 []] (I (spanN digI l : Nat)) := by
  have := span_dig (ofL l) (by rw [ofL_size]; exact hl) 0 (Nat.zero_le _)
  rwa [bs_ofL, List.drop_zero, Nat.zero_add] at this
theorem nameP (l : List UInt8) (hl : l.length ≤ 1000000) : Meets Tryz.prog 84 [SL l] (B (nameL l)) := by
  have := name (ofL l) (by rw [ofL_size]; exact hl)
  rwa [nameE, bs_ofL] at this
def varN (l : List UInt8) : Nat := if hd l = 95 then 1 + spanN nbI (l.drop 1) else spanN nbI l
theorem varE_is (l : List UInt8) : varE l = if nameL (l.take (varN l)) = true then some (l.take (varN l), l.drop (varN l)) else none := rfl
theorem hd_len {l : List UInt8} (h : hd l ≠ 0) : 1 ≤ l.length := by
  cases l with
  | nil => exact absurd rfl h
  | cons b l => simp
theorem varN_le (l : List UInt8) : varN l ≤ l.length := by
  unfold varN
  split
  · have h1 := hd_len (l := l) (by omega)
    have := spanN_le' nbI l 1
    omega
  · exact spanN_le nbI l

section
variable {n : Nat} {t : List (Nat × AV)} {h : Heap} {d : Tmp} {r s m : Nat} {K : AS → Prop} {sg c : Int} {cs : List Tm} (p : Pos h r s m) (ht : refsT h.length t = true) (hh : refsH h.length h = true)
include p
theorem variable_ (l : List UInt8) (hl : l.length ≤ 1000000) (h1 : ∀ q, varE l = some q → K ⟨n, (d, .tup [SL q.1, B true]) :: t, H3 h r s m q.2 sg c cs⟩) (h2 : varE l = none → K ⟨n, (d, .tup [S ⟨#[]⟩, B false]) :: t, H3 h r s m l sg c cs⟩) : CallS Tryz.prog ⟨n, t, H3 h r s m l sg c cs⟩ (some d) 125 [.ptr r 0] K := by
  have gr : ∀ l sg c cs, (H3 h r s m l sg c cs)[r]? = some (readB l sg s) := fun l sg c cs => H3_r p
  have sr : ∀ l sg c cs l' sg', (H3 h r s m l sg c cs).set r (readB l' sg' s) = H3 h r s m l' sg' c cs := fun l sg c cs l' sg' => H3_set p
  rw [varE_is] at h1 h2
  have hv := varN_le l
  have e1 : (ofL l).extract 0 (varN l) = ofL (l.take (varN l)) := by rw [ofL_ext, List.drop_zero]
  have e2 : (ofL l).extract (varN l) l.length = ofL (l.drop (varN l)) := by rw [ofL_ext, List.take_length]
  have hn := nameP (l.take (varN l)) (by simp; omega)
  refine call_inl (X := false) Ty.mixed Tryz.func125 (by kernel_rfl) rfl (by kernel_rfl) (by simp) ?_; rw [Tryz.ntmps125, Tryz.results125]; simp only [zB,zx,zA,zl,zi,zq,isCallV,zG,zH,zp,zw,zo,pureOp,apureO,aev,cv,cvc,zF,zD,argT,isC,zz,bsD,zf,↓reduceIte,za,zh,zj,zk,zr,List.cons_append,List.nil_append,zd,zg,true_and,ne_eq,not_false_eq_true,reduceCtorEq,Nat.reduceAdd,zu,Ty.td9,Ty.td89,gr,sr]
  refine call_meets (span0 l hl) (by simp only [aev,cv,cvc,yai,toD_fn,zK,zQ,zN,isC,bsD,zM,gr,sr] <;> rfl) ?_; simp only [zB,zx,zA,zl,zi,zq,isCallV,zG,zH,zp,zw,yao,zo,pureOp,apureO,killT,aev,cv,cvc,zF,zD,yab,zT,ownsV_fn,zO,zL,isC,zz,bsD,zf,↓reduceIte,za,zh,zj,zk,zr,zd,zg,zE,true_and,ne_eq,not_false_eq_true,reduceCtorEq,Nat.reduceAdd,zu,zy,Ty.td9,Ty.td89,gr,sr]
  refine call_meets (prefix_ l hl 95 (by decide)) (by simp only [aev,cv,cvc,yai,zK,zQ,zN,isC,bsD,gr,sr] <;> rfl) ?_; simp only [zZ,zA,zl,yao,zo,killT,aev,cv,cvc,yab,zT,zO,zL,isC,bsD,↓reduceIte,zd,zE,zy,gr,sr]
  by_cases h95 : hd l = 95
  · have hvn : varN l = 1 + spanN nbI (l.drop 1) := if_pos h95
    simp only [zB,zi,zq,isCallV,zG,zH,zp,zw,zo,pureOp,apureO,aev,cv,cvc,zF,zD,yax,isC,zz,bsD,zf,↓reduceIte,za,zh,zj,zk,zr,zd,zg,true_and,ne_eq,not_false_eq_true,reduceCtorEq,Nat.reduceAdd,zu,Ty.td9,Ty.td89,show decide (hd l = ((95 : UInt8).toNat : Int)) = true from decide_eq_true h95,gr,sr]
    refine call_meets (span1 l hl (hd_len (by omega))) (by simp only [aev,cv,cvc,yai,toD_fn,zK,zQ,zN,isC,bsD,zM,gr,sr,← hvn,e1] <;> rfl) ?_; simp only [zB,zx,zA,zl,zi,zq,isCallV,zG,zH,zp,yay,zw,yao,zo,pureOp,apureO,astepO,yap,yaq,yar,killT,aev,cv,cvc,zF,zD,yab,zT,ownsV_fn,zO,zL,isC,zz,bsD,zS,zf,↓reduceIte,za,zh,zj,zk,zr,zd,zM,zR,zg,zE,true_and,ne_eq,not_false_eq_true,reduceCtorEq,Nat.reduceAdd,Nat.reduceEqDiff,zu,zy,zV,Ty.td9,Ty.td89,gr,sr,← hvn,e1,ofL_size]
    refine ⟨by omega, ?_⟩
    refine call_meets (hn) (by simp only [aev,cv,cvc,yai,zK,zQ,zN,isC,bsD,gr,sr,e2] <;> rfl) ?_; simp only [zZ,zA,zl,zi,zq,zp,zw,yao,zo,pureOp,apureO,killT,aev,cv,cvc,yab,zT,zO,zL,isC,bsD,↓reduceIte,zd,zE,zy,gr,sr,e2]
    cases hnm : nameL (l.take (varN l)) with
    | true =>
      rw [if_pos hnm] at h1
      simp only [yan,zB,zx,yad,zA,zl,zi,zq,isCallV,yae,yah,unshift,zp,yay,zw,upd_n,yao,zo,pureOp,apureO,astepO,yap,yaq,yar,killT,aev,cv,cvc,zF,zD,storeA,cellsA,cellOk,setAll,yaw,notExit,zW,zX,oneA_2,zI,isC,zz,bsD,zS,zf,↓reduceIte,za,zh,zj,yaf,zM,zR,zg,yau,Value.oneCell',true_and,ne_eq,not_false_eq_true,reduceCtorEq,Nat.reduceAdd,Nat.reduceLeDiff,Nat.reduceEqDiff,zu,zV,Ty.td9,Ty.td89,gr,sr,e2,ofL_size,hnm]
      exact ⟨by omega, h1 _ rfl⟩
    | false =>
      rw [if_neg (by rw [hnm]; simp)] at h2
      simp only [zB,zx,yad,zA,yaB,zl,zi,zq,yae,yah,unshift,zp,zw,zo,pureOp,apureO,aev,cv,cvc,yax,notExit,zW,zX,oneA_2,zI,isC,bsD,↓reduceIte,zg,yaA,true_and,Nat.reduceLeDiff,Nat.reduceEqDiff,gr,sr,e2,hnm]
      exact h2 rfl
  · have hvn : varN l = spanN nbI l := if_neg h95
    simp only [yan,zB,zx,zA,zl,zi,zq,isCallV,zG,zH,zp,yay,zw,yao,zo,pureOp,apureO,astepO,yap,yaq,yar,killT,aev,cv,cvc,zF,zD,yaw,isC,zz,bsD,zS,zf,↓reduceIte,za,zh,zj,zk,zr,zd,zM,zR,zg,true_and,ne_eq,not_false_eq_true,reduceCtorEq,Nat.reduceAdd,Nat.reduceEqDiff,zu,zV,Ty.td9,Ty.td89,show decide (hd l = ((95 : UInt8).toNat : Int)) = false from decide_eq_false h95,gr,sr,← hvn,e1,ofL_size]
    refine ⟨by omega, ?_⟩
    refine call_meets (hn) (by simp only [aev,cv,cvc,yai,zK,zQ,zN,isC,bsD,gr,sr,e2] <;> rfl) ?_; simp only [zZ,zA,zl,zi,zq,zp,zw,yao,zo,pureOp,apureO,killT,aev,cv,cvc,yab,zT,zO,zL,isC,bsD,↓reduceIte,zd,zE,zy,gr,sr,e2]
    cases hnm : nameL (l.take (varN l)) with
    | true =>
      rw [if_pos hnm] at h1
      simp only [yan,zB,zx,yad,zA,zl,zi,zq,isCallV,yae,yah,unshift,zp,yay,zw,upd_n,yao,zo,pureOp,apureO,astepO,yap,yaq,yar,killT,aev,cv,cvc,zF,zD,storeA,cellsA,cellOk,setAll,yaw,notExit,zW,zX,oneA_2,zI,isC,zz,bsD,zS,zf,↓reduceIte,za,zh,zj,yaf,zM,zR,zg,yau,Value.oneCell',true_and,ne_eq,not_false_eq_true,reduceCtorEq,Nat.reduceAdd,Nat.reduceLeDiff,Nat.reduceEqDiff,zu,zV,Ty.td9,Ty.td89,gr,sr,e2,ofL_size,hnm]
      exact ⟨by omega, h1 _ rfl⟩
    | false =>
      rw [if_neg (by rw [hnm]; simp)] at h2
      simp only [zB,zx,yad,zA,yaB,zl,zi,zq,yae,yah,unshift,zp,zw,zo,pureOp,apureO,aev,cv,cvc,yax,notExit,zW,zX,oneA_2,zI,isC,bsD,↓reduceIte,zg,yaA,true_and,Nat.reduceLeDiff,Nat.reduceEqDiff,gr,sr,e2,hnm]
      exact h2 rfl
include ht hh
theorem alone_ (l : List UInt8) (hl : l.length ≤ 1000000) (h1 : ∀ q, varE l = some q → K ⟨n, (d, B true) :: t, H3 h r s m q.2 sg (addC c sg 0) (addT sg (oneV q.1) cs)⟩) (h2 : varE l = none → ∀ c' cs', K ⟨n, (d, B false) :: t, H3 h r s m l sg c' cs'⟩) : CallS Tryz.prog ⟨n, t, H3 h r s m l sg c cs⟩ (some d) 93 [.ptr r 0] K := by
  have gr : ∀ l sg c cs, (H3 h r s m l sg c cs)[r]? = some (readB l sg s) := fun l sg c cs => H3_r p
  refine call_inl (X := true) Ty.mixed Tryz.func93 (by kernel_rfl) rfl (by kernel_rfl) (by simp) ?_; rw [Tryz.ntmps93, Tryz.results93]; simp only [zB,zx,zA,zl,zi,zq,isCallV,zG,zH,zp,zw,zo,pureOp,apureO,aev,cv,cvc,argT,isC,bsD,zf,↓reduceIte,zk,zr,List.cons_append,List.nil_append,zd,reduceCtorEq,gr]
  refine variable_ p l hl (fun q hq => ?_) fun hq => ?_
  · simp only [yas,zx,zA,zl,zi,zq,zp,zw,zo,pureOp,apureO,aev,cv,cvc,zF,isC,bsD,↓reduceIte,za,zb,Nat.reduceEqDiff,gr]
    refine drawS_at 10 (by kernel_rfl) (by kernel_rfl) ?_; simp only [isCallV,zP,yak,yal,zp,zw,zo,pureOp,apureO,aev,cv,cvc,zF,zD,isC,zz,zJ,bsD,zf,↓reduceIte,za,zb,zh,zj,zk,zr,zd,zg,true_and,ne_eq,not_false_eq_true,reduceCtorEq,Nat.reduceAdd,Nat.reduceEqDiff,zu,Ty.td73,Ty.td89,gr]
    refine calld_meets (var_ (ofL q.1)) (by simp only [aev,cv,cvc,yai,zK,zQ,zN,isC,bsD,gr] <;> rfl) (by simp only [aev,cv,cvc,yab,yat,yaz,yag,yac,zT,zO,zL,isC,bsD,zd,zY,zU,zE,and_true,zy,gr]) ?_; simp only [zi,zq,isCallV,zG,zH,zP,zp,zw,zo,pureOp,apureO,aev,cv,cvc,zF,zD,isC,zz,yam,zJ,bsD,zf,↓reduceIte,za,zb,zh,zj,zk,zr,zd,zg,true_and,ne_eq,not_false_eq_true,reduceCtorEq,Nat.reduceAdd,Nat.reduceEqDiff,zu,Ty.td3,Ty.td89,gr]
    have hsz : small (oneV q.1) := ⟨by simp [oneV], fun t ht => by
      simp [oneV] at ht
      subst ht
      show (ofL q.1).size ≤ _
      rw [ofL_size]
      rw [varE_is] at hq
      split at hq
      · cases hq; simp; omega
      · cases hq⟩
    refine add_in (c0 := c) (cs := cs) 0 sg (oneV q.1) hsz (H3_s p) (H3_m p) (by simp [H3_len, refsT_cons, refsT_shift, ht, refsV, refsL, p.hr, p.hs]) (by rw [H3_len]; exact H3_refs p hh) ?_
    rw [H3_H2 p]
    simp only [zB,zx,yad,zA,zl,zi,zq,yae,yah,unshift,zp,zw,zo,pureOp,apureO,aev,cv,cvc,notExit,zW,zX,yav,zI,isC,bsD,↓reduceIte,zg,true_and,Nat.reduceLeDiff,Nat.reduceEqDiff,gr]
    exact h1 q hq
  · simp only [yas,zx,zA,zl,zi,zq,zp,zw,zo,pureOp,apureO,aev,cv,cvc,zF,isC,bsD,↓reduceIte,za,zb,Nat.reduceEqDiff,gr]
    refine drawS_at 10 (by kernel_rfl) (by kernel_rfl) ?_; simp only [isCallV,zP,yak,yal,zp,zw,zo,pureOp,apureO,aev,cv,cvc,zF,zD,isC,zz,zJ,bsD,zf,↓reduceIte,za,zb,zh,zj,zk,zr,zd,zg,true_and,ne_eq,not_false_eq_true,reduceCtorEq,Nat.reduceAdd,Nat.reduceEqDiff,zu,Ty.td73,Ty.td89,gr]
    refine calld_meets (var_ ⟨#[]⟩) (by simp only [aev,cv,cvc,yai,zK,zQ,zN,isC,bsD,gr] <;> rfl) (by simp only [aev,cv,cvc,yab,yat,yaz,yag,yac,zT,zO,zL,isC,bsD,zd,zY,zU,zE,and_true,zy,gr]) ?_; simp only [zi,zq,isCallV,zG,zH,zP,zp,zw,zo,pureOp,apureO,aev,cv,cvc,zF,zD,isC,zz,yam,zJ,bsD,zf,↓reduceIte,za,zb,zh,zj,zk,zr,zd,zg,true_and,ne_eq,not_false_eq_true,reduceCtorEq,Nat.reduceAdd,Nat.reduceEqDiff,zu,Ty.td3,Ty.td89,gr]
    refine add_in (c0 := c) (cs := cs) 0 sg [(⟨#[]⟩, 1)] ⟨by simp, fun t ht => by simp at ht; subst ht; exact Nat.zero_le _⟩ (H3_s p) (H3_m p) (by simp [H3_len, refsT_cons, refsT_shift, ht, refsV, refsL, p.hr, p.hs]) (by rw [H3_len]; exact H3_refs p hh) ?_
    rw [H3_H2 p]
    simp only [zB,zx,yad,zA,zl,zi,zq,yae,yah,unshift,zp,zw,zo,pureOp,apureO,aev,cv,cvc,notExit,zW,zX,yav,zI,isC,bsD,↓reduceIte,zg,true_and,Nat.reduceLeDiff,Nat.reduceEqDiff,gr]
    exact h2 hq _ _
omit p ht hh
def condN (l : List UInt8) : Prop := spanN digI l = 0 ∨ 7 < spanN digI l ∨ (1 < spanN digI l ∧ hd l = 48)
def itemN (sg : Int) (l : List UInt8) (st : Int × List Tm) : Option (List UInt8 × (Int × List Tm)) :=
  match varE (l.drop (spanN digI l)) with
  | some p => some (p.2, addS (W (sg * numE (l.take (spanN digI l)))) 0 (oneV p.1) st)
  | none =>
    if hd (trimE (l.drop (spanN digI l))) = 42 then
      (varE (trimE ((trimE (l.drop (spanN digI l))).drop 1))).map fun p => (p.2, addS (W (sg * numE (l.take (spanN digI l)))) 0 (oneV p.1) st)
    else some (trimE (l.drop (spanN digI l)), addS sg (numE (l.take (spanN digI l))) [] st)
theorem dig_take (l : List UInt8) : ∀ b ∈ l.take (spanN digI l), digI b.toNat = true := by
  intro b hb
  have h := List.prefix_iff_eq_take.1 (List.takeWhile_prefix (l := l) fun b => digI b.toNat)
  unfold spanN at hb
  rw [← h] at hb
  have := List.all_eq_true.1 (List.all_takeWhile (l := l) (p := fun b => digI b.toNat)) b hb
  simpa using this
theorem trimE_len (l : List UInt8) : (trimE l).length ≤ l.length := (List.dropWhile_sublist _).length_le
theorem varE_len {l : List UInt8} {q : List UInt8 × List UInt8} (h : varE l = some q) : q.1.length ≤ l.length ∧ q.2.length ≤ l.length := by
  rw [varE_is] at h
  split at h
  · cases h; simp
    omega
  · cases h
theorem one_small {v : List UInt8} (h : v.length ≤ 1000000) : small (oneV v) := ⟨by simp [oneV], fun t ht => by
  simp [oneV] at ht
  subst ht
  show (ofL v).size ≤ _
  rw [ofL_size]
  exact h⟩
include p ht hh
theorem numbered_ (hA : AtoiOk) (l : List UInt8) (hl : l.length ≤ 1000000) (hT : ¬ condN l → ∀ q, itemN sg l (c, cs) = some q → K ⟨n, (d, B true) :: t, H3 h r s m q.1 sg q.2.1 q.2.2⟩)
    (hF1 : condN l → K ⟨n, (d, B false) :: t, H3 h r s m l sg c cs⟩) (hF2 : ¬ condN l → itemN sg l (c, cs) = none → ∀ l' c' cs', varE l' = none → l'.length ≤ 1000000 → K ⟨n, (d, B false) :: t, H3 h r s m l' sg c' cs'⟩) :
    CallS Tryz.prog ⟨n, t, H3 h r s m l sg c cs⟩ (some d) 92 [.ptr r 0] K := by
  have gr : ∀ l sg c cs, (H3 h r s m l sg c cs)[r]? = some (readB l sg s) := fun l sg c cs => H3_r p
  have sr : ∀ l sg c cs l' sg', (H3 h r s m l sg c cs).set r (readB l' sg' s) = H3 h r s m l' sg' c cs := fun l sg c cs l' sg' => H3_set p
  have he := spanN_le digI l
  refine call_inl (X := true) Ty.mixed Tryz.func92 (by kernel_rfl) rfl (by kernel_rfl) (by simp) ?_; rw [Tryz.ntmps92, Tryz.results92]; simp only [zB,zx,zA,zl,zi,zq,isCallV,zG,zH,zp,zw,zo,pureOp,apureO,aev,cv,cvc,zF,zD,argT,isC,zz,bsD,zf,↓reduceIte,za,zh,zj,zk,zr,List.cons_append,List.nil_append,zd,zg,true_and,ne_eq,not_false_eq_true,reduceCtorEq,Nat.reduceAdd,zu,Ty.td9,Ty.td89,gr,sr]
  refine call_meets (spanD l hl) (by simp only [aev,cv,cvc,yai,toD_fn,zK,zQ,zN,isC,bsD,zM,gr,sr] <;> rfl) ?_; simp only [zB,zx,zA,zl,zi,yaC,zq,zp,zw,yao,zo,pureOp,apureO,killT,aev,cv,cvc,binK,yieldA,yab,zT,ownsV_fn,zO,zL,isC,bsD,↓reduceIte,za,zb,zd,yaa,yaj,zg,zE,true_and,zy,gr,sr]
  by_cases h0 : spanN digI l = 0
  · simp only [zB,zx,zZ,yad,zA,yaB,zl,zi,yaC,zq,yae,yah,unshift,zp,zw,zo,pureOp,apureO,aev,cv,cvc,yieldA,guardA_no,guardA_ft,yax,pickA_t,notExit,zW,zX,yav,zI,isC,bsD,↓reduceIte,za,zb,yaa,yaj,zg,true_and,Nat.reduceLeDiff,Nat.reduceEqDiff,show ((spanN digI l : Int) == 0) = true by simpa using h0]
    exact hF1 (Or.inl h0)
  by_cases h7 : 7 < spanN digI l
  · simp only [zB,zx,zZ,yad,zA,yaB,zl,zi,yaC,zq,yae,yah,unshift,awpO_is,zp,zw,zo,pureOp,apureO,aev,cv,cvc,binK,yieldA,guardA_no,guardA_ft,guardA_ff,yax,pickA_t,pickA_f,notExit,zW,zX,yav,zI,isC,bsD,↓reduceIte,za,zb,yaa,yaj,zg,true_and,Nat.reduceLeDiff,Nat.reduceEqDiff,show ((spanN digI l : Int) == 0) = false by simpa using h0,show decide ((7 : Int) < (spanN digI l : Int)) = true from decide_eq_true (by omega)]
    exact hF1 (Or.inr (Or.inl h7))
  obtain ⟨b, l', rfl⟩ : ∃ b l', l = b :: l' := by
    cases l with
    | nil => simp at he; omega
    | cons b l' => exact ⟨b, l', rfl⟩
  have g0 : (ofL (b :: l'))[0]? = some b := by rw [ofL_get]; rfl
  by_cases h48 : 1 < spanN digI (b :: l') ∧ hd (b :: l') = 48
  · simp only [zB,zx,zZ,yad,zA,yaB,zl,zi,yaC,zq,yae,yah,unshift,awpO_is,zp,zw,zo,pureOp,apureO,aev,cv,cvc,binK,zF,zD,yieldA,guardA_tt,guardA_ff,yax,pickA_t,pickA_f,notExit,zW,zX,yav,zI,isC,zz,bsD,zf,↓reduceIte,za,zb,zh,zj,yaa,yaj,zg,true_and,ne_eq,not_false_eq_true,reduceCtorEq,Nat.reduceAdd,Nat.reduceLeDiff,Nat.reduceEqDiff,zu,Int.reduceToNat,Int.le_refl,Ty.td9,Ty.td89,show ((spanN digI (b :: l') : Int) == 0) = false by simpa using h0,show decide ((7 : Int) < (spanN digI (b :: l') : Int)) = false from decide_eq_false (by omega),show decide ((1 : Int) < (spanN digI (b :: l') : Int)) = true from decide_eq_true (by omega),gr,sr,g0,show (((b.toNat : Nat) : Int) == 48) = true by simpa [hd] using h48.2]
    exact hF1 (Or.inr (Or.inr h48))
  have hc : ¬ condN (b :: l') := fun hc => hc.elim h0 fun hc => hc.elim h7 h48
  have hdb : hd (b :: l') = (b.toNat : Int) := rfl
  generalize b :: l' = l at *
  have e1 : (ofL l).extract 0 (spanN digI l) = ofL (l.take (spanN digI l)) := by rw [ofL_ext, List.drop_zero]
  have e2 : (ofL l).extract (spanN digI l) l.length = ofL (l.drop (spanN digI l)) := by rw [ofL_ext, List.take_length]
  have hat := hA (l.take (spanN digI l)) (by simp; omega) (by simp; omega) (dig_take l)
  have next : ∀ P : Prop, (1 < spanN digI l → ((b.toNat : Int) == 48) = false → P) → (¬ 1 < spanN digI l → P) → P := fun P a b' => by
    by_cases h : 1 < spanN digI l
    · exact a h (by simpa using fun e => h48 ⟨h, hdb.trans e⟩)
    · exact b' h
  have hdl : (l.drop (spanN digI l)).length ≤ 1000000 := by simp; omega
  have htl : (trimE (l.drop (spanN digI l))).length ≤ 1000000 := Nat.le_trans (trimE_len _) hdl
  have hul : ((trimE (l.drop (spanN digI l))).drop 1).length ≤ 1000000 := by simp; omega
  have hwl : (trimE ((trimE (l.drop (spanN digI l))).drop 1)).length ≤ 1000000 := Nat.le_trans (trimE_len _) hul
  replace hT := hT hc
  replace hF2 := hF2 hc
  unfold itemN at hT hF2
  refine next _ (fun h1 h2 => ?_) fun h1 => ?_
  · simp only [yan,zB,zx,zZ,zA,zl,zi,yaC,zq,isCallV,zG,zH,awpO_is,zp,yay,zw,yao,zo,pureOp,apureO,astepO,yap,yaq,yar,killT,aev,cv,cvc,binK,zF,zD,yieldA,guardA_tt,guardA_ff,yaw,pickA_t,pickA_f,isC,zz,bsD,zS,zf,↓reduceIte,za,zb,zh,zj,zk,zr,zd,yaa,yaj,zM,zR,zg,true_and,ne_eq,not_false_eq_true,reduceCtorEq,Nat.reduceAdd,Nat.reduceEqDiff,zu,Int.reduceToNat,zV,Int.le_refl,Ty.td9,Ty.td89,show ((spanN digI l : Int) == 0) = false by simpa using h0,show decide ((7 : Int) < (spanN digI l : Int)) = false from decide_eq_false (by omega),show decide ((1 : Int) < (spanN digI l : Int)) = true from decide_eq_true (by omega),gr,sr,g0,h2,e1,e2,ofL_size]
    refine ⟨by omega, ?_⟩
    refine call_meets (hat) (by simp only [aev,cv,cvc,yai,zK,zQ,zN,isC,bsD,gr,sr,e2] <;> rfl) ?_; simp only [yan,zB,zx,zZ,zA,zl,zi,zq,isCallV,zG,zH,zp,yay,zw,upd_n,yao,zo,pureOp,apureO,astepO,yap,yaq,yar,killT,aev,cv,cvc,binK,zF,zD,storeA,cellsA,cellOk,setAll,yaw,yab,flat_tup,yag,yac,zT,zO,zL,eqOpK_n,isC,zz,bsD,zS,zf,↓reduceIte,za,zb,zh,zj,zk,zr,zd,yaf,zM,zR,zg,Bool.and_self,zE,yau,Value.oneCell',true_and,and_self,ne_eq,not_false_eq_true,reduceCtorEq,Nat.reduceAdd,Nat.reduceLeDiff,Nat.reduceEqDiff,zu,zy,zV,Ty.td9,Ty.td89,Ty.td144,gr,sr,e2,ofL_size]
    refine ⟨by omega, ?_⟩
    refine variable_ p _ hdl (fun q hq => ?_) fun hq => ?_
    · rw [hq] at hT
      simp only [yas,zB,zx,zZ,zA,zl,zi,zq,zp,zw,zo,pureOp,apureO,aev,cv,cvc,zF,yax,isC,bsD,↓reduceIte,za,zb,Nat.reduceEqDiff,gr,sr]
      refine drawS_at 12 (by kernel_rfl) (by kernel_rfl) ?_; simp only [isCallV,zP,yak,yal,zp,zw,zo,pureOp,apureO,aev,cv,cvc,zF,zD,isC,zz,zJ,bsD,zf,↓reduceIte,za,zb,zh,zj,zk,zr,zd,zg,true_and,ne_eq,not_false_eq_true,reduceCtorEq,Nat.reduceAdd,Nat.reduceEqDiff,zu,Ty.td73,Ty.td89,gr,sr]
      refine calld_meets (var_ (ofL q.1)) (by simp only [aev,cv,cvc,yai,zK,zQ,zN,isC,bsD,gr] <;> rfl) (by simp only [aev,cv,cvc,yab,yat,yaz,yag,yac,zT,zO,zL,isC,bsD,zd,zY,zU,zE,and_true,zy,gr]) ?_; simp only [zi,zq,isCallV,zG,zH,zP,zp,zw,zo,pureOp,apureO,aev,cv,cvc,binK,zF,zD,isC,zz,yam,zJ,bsD,zf,↓reduceIte,za,zb,zh,zj,zk,zr,zd,zg,true_and,ne_eq,not_false_eq_true,reduceCtorEq,Nat.reduceAdd,Nat.reduceEqDiff,zu,Ty.td3,Ty.td89,gr]
      refine add_in (c0 := c) (cs := cs) 0 (W (sg * numE (l.take (spanN digI l)))) (oneV q.1) (one_small (Nat.le_trans (varE_len hq).1 hdl)) (H3_s p) (H3_m p) (by simp [H3_len, refsT_cons, refsT_shift, ht, refsV, refsL, p.hr, p.hs]) (by rw [H3_len]; exact H3_refs p hh) ?_
      rw [H3_H2 p]
      simp only [zB,zx,yad,zA,yaB,zl,zi,zq,yae,yah,unshift,zp,zw,zo,pureOp,apureO,aev,cv,cvc,notExit,zW,zX,yav,zI,isC,bsD,↓reduceIte,zg,true_and,Nat.reduceLeDiff,gr]
      exact hT _ rfl
    · rw [hq] at hT hF2
      simp only at hT hF2
      simp only [yan,zB,zx,zZ,zA,zl,zi,zq,isCallV,zG,zH,zp,zw,zo,pureOp,apureO,aev,cv,cvc,zF,yaw,isC,bsD,zf,↓reduceIte,za,zb,zk,zr,zd,reduceCtorEq,Nat.reduceEqDiff,gr,sr]
      refine spaces_ p _ hdl ?_
      simp only [zB,zx,zA,zl,zi,zq,isCallV,zG,zH,zp,zw,zo,pureOp,apureO,aev,cv,cvc,zF,zD,isC,zz,bsD,zf,↓reduceIte,za,zh,zj,zk,zr,zd,zg,true_and,ne_eq,not_false_eq_true,reduceCtorEq,Nat.reduceAdd,zu,Ty.td9,Ty.td89,gr,sr]
      refine call_meets (prefix_ _ htl 42 (by decide)) (by simp only [aev,cv,cvc,yai,zK,zQ,zN,isC,bsD,gr,sr] <;> rfl) ?_; simp only [zZ,zA,zl,zi,zq,zp,zw,yao,zo,pureOp,apureO,killT,aev,cv,cvc,yab,zT,zO,zL,isC,bsD,↓reduceIte,zd,zE,zy,gr,sr]
      by_cases h42 : hd (trimE (l.drop (spanN digI l))) = 42
      · rw [if_pos h42] at hT hF2
        have := hd_len (l := trimE (l.drop (spanN digI l))) (by omega)
        have e3 : (ofL (trimE (l.drop (spanN digI l)))).extract 1 (trimE (l.drop (spanN digI l))).length = ofL ((trimE (l.drop (spanN digI l))).drop 1) := by rw [ofL_ext, List.take_length]
        simp only [yan,zB,zx,zA,zl,zi,zq,isCallV,zG,zH,zp,yay,zw,upd_n,yao,zo,pureOp,apureO,astepO,yap,yaq,yar,killT,aev,cv,cvc,zF,zD,storeA,cellsA,cellOk,setAll,yaw,isC,zz,bsD,zf,↓reduceIte,za,zh,zj,zk,zr,zd,yaf,zM,zR,zg,yau,Value.oneCell',true_and,ne_eq,not_false_eq_true,reduceCtorEq,Nat.reduceAdd,Nat.reduceLeDiff,Nat.reduceEqDiff,zu,Int.reduceToNat,Ty.td9,Ty.td89,show decide (hd (trimE (l.drop (spanN digI l))) = ((42 : UInt8).toNat : Int)) = true from decide_eq_true h42,gr,sr,ofL_size]
        refine ⟨by omega, by omega, ?_⟩
        simp only [e3]
        refine spaces_ p _ hul ?_
        simp only [zB,zx,zA,zl,zi,zq,isCallV,zG,zH,zp,zw,zo,pureOp,apureO,aev,cv,cvc,isC,bsD,zf,↓reduceIte,zk,zr,zd,reduceCtorEq,gr,sr]
        refine variable_ p _ hwl (fun q hq2 => ?_) fun hq2 => ?_
        · rw [hq2] at hT
          simp only [yas,zx,zA,zl,zi,zq,zp,zw,zo,pureOp,apureO,aev,cv,cvc,zF,isC,bsD,↓reduceIte,za,zb,Nat.reduceEqDiff,gr,sr]
          refine drawS_at 12 (by kernel_rfl) (by kernel_rfl) ?_; simp only [isCallV,zP,yak,yal,zp,zw,zo,pureOp,apureO,aev,cv,cvc,zF,zD,isC,zz,zJ,bsD,zf,↓reduceIte,za,zb,zh,zj,zk,zr,zd,zg,true_and,ne_eq,not_false_eq_true,reduceCtorEq,Nat.reduceAdd,Nat.reduceEqDiff,zu,Ty.td73,Ty.td89,gr,sr]
          refine calld_meets (var_ (ofL q.1)) (by simp only [aev,cv,cvc,yai,zK,zQ,zN,isC,bsD,gr] <;> rfl) (by simp only [aev,cv,cvc,yab,yat,yaz,yag,yac,zT,zO,zL,isC,bsD,zd,zY,zU,zE,and_true,zy,gr]) ?_; simp only [zi,zq,isCallV,zG,zH,zP,zp,zw,zo,pureOp,apureO,aev,cv,cvc,binK,zF,zD,isC,zz,yam,zJ,bsD,zf,↓reduceIte,za,zb,zh,zj,zk,zr,zd,zg,true_and,ne_eq,not_false_eq_true,reduceCtorEq,Nat.reduceAdd,Nat.reduceEqDiff,zu,Ty.td3,Ty.td89,gr]
          refine add_in (c0 := c) (cs := cs) 0 (W (sg * numE (l.take (spanN digI l)))) (oneV q.1) (one_small (Nat.le_trans (varE_len hq2).1 hwl)) (H3_s p) (H3_m p) (by simp [H3_len, refsT_cons, refsT_shift, ht, refsV, refsL, p.hr, p.hs]) (by rw [H3_len]; exact H3_refs p hh) ?_
          rw [H3_H2 p]
          simp only [zB,zx,yad,zA,zl,zi,zq,yae,yah,unshift,zp,zw,zo,pureOp,apureO,aev,cv,cvc,notExit,zW,zX,yav,zI,isC,bsD,↓reduceIte,zg,true_and,Nat.reduceLeDiff,Nat.reduceEqDiff,gr]
          exact hT _ rfl
        · rw [hq2] at hF2
          simp only [yas,zx,zA,zl,zi,zq,zp,zw,zo,pureOp,apureO,aev,cv,cvc,zF,isC,bsD,↓reduceIte,za,zb,Nat.reduceEqDiff,gr,sr]
          refine drawS_at 12 (by kernel_rfl) (by kernel_rfl) ?_; simp only [isCallV,zP,yak,yal,zp,zw,zo,pureOp,apureO,aev,cv,cvc,zF,zD,isC,zz,zJ,bsD,zf,↓reduceIte,za,zb,zh,zj,zk,zr,zd,zg,true_and,ne_eq,not_false_eq_true,reduceCtorEq,Nat.reduceAdd,Nat.reduceEqDiff,zu,Ty.td73,Ty.td89,gr,sr]
          refine calld_meets (var_ ⟨#[]⟩) (by simp only [aev,cv,cvc,yai,zK,zQ,zN,isC,bsD,gr] <;> rfl) (by simp only [aev,cv,cvc,yab,yat,yaz,yag,yac,zT,zO,zL,isC,bsD,zd,zY,zU,zE,and_true,zy,gr]) ?_; simp only [zi,zq,isCallV,zG,zH,zP,zp,zw,zo,pureOp,apureO,aev,cv,cvc,binK,zF,zD,isC,zz,yam,zJ,bsD,zf,↓reduceIte,za,zb,zh,zj,zk,zr,zd,zg,true_and,ne_eq,not_false_eq_true,reduceCtorEq,Nat.reduceAdd,Nat.reduceEqDiff,zu,Ty.td3,Ty.td89,gr]
          refine add_in (c0 := c) (cs := cs) 0 (W (sg * numE (l.take (spanN digI l)))) [(⟨#[]⟩, 1)] ⟨by simp, fun t ht => by simp at ht; subst ht; exact Nat.zero_le _⟩ (H3_s p) (H3_m p) (by simp [H3_len, refsT_cons, refsT_shift, ht, refsV, refsL, p.hr, p.hs]) (by rw [H3_len]; exact H3_refs p hh) ?_
          rw [H3_H2 p]
          simp only [zB,zx,yad,zA,zl,zi,zq,yae,yah,unshift,zp,zw,zo,pureOp,apureO,aev,cv,cvc,notExit,zW,zX,yav,zI,isC,bsD,↓reduceIte,zg,true_and,Nat.reduceLeDiff,Nat.reduceEqDiff,gr]
          exact hF2 rfl _ _ _ hq2 hwl
      · rw [if_neg h42] at hT
        simp only [yas,zx,aev,cv,cvc,yax,isC,bsD,yaA,show decide (hd (trimE (l.drop (spanN digI l))) = ((42 : UInt8).toNat : Int)) = false from decide_eq_false h42,gr,sr]
        refine drawS_at 10 (by kernel_rfl) (by kernel_rfl) ?_; simp only [isCallV,zP,yak,yal,zp,zw,zo,pureOp,apureO,aev,cv,cvc,zF,zD,isC,zz,zJ,bsD,zf,↓reduceIte,za,zb,zh,zj,zk,zr,zd,zg,true_and,ne_eq,not_false_eq_true,reduceCtorEq,Nat.reduceAdd,Nat.reduceEqDiff,zu,Ty.td73,Ty.td89,gr,sr]
        refine calld_meets (of_ (numE (l.take (spanN digI l)))) (by simp only [aev,cv,cvc,yai,zK,zQ,zN,isC,bsD,gr] <;> rfl) (by simp only [aev,cv,cvc,yab,yat,yaz,yag,yac,zT,zO,zL,isC,bsD,zd,zY,zU,zE,and_true,zy,gr]) ?_; simp only [zi,zq,isCallV,zG,zH,zP,zp,zw,zo,pureOp,apureO,aev,cv,cvc,zF,zD,isC,zz,yam,zJ,bsD,zf,↓reduceIte,za,zb,zh,zj,zk,zr,zd,zg,true_and,ne_eq,not_false_eq_true,reduceCtorEq,Nat.reduceAdd,Nat.reduceEqDiff,zu,Ty.td3,Ty.td89,gr]
        refine add_in (c0 := c) (cs := cs) (numE (l.take (spanN digI l))) sg [] ⟨by simp, by simp⟩ (H3_s p) (H3_m p) (by simp [H3_len, refsT_cons, refsT_shift, ht, refsV, refsL, p.hr, p.hs]) (by rw [H3_len]; exact H3_refs p hh) ?_
        rw [H3_H2 p]
        simp only [zB,zx,yad,zA,yaB,zl,zi,zq,yae,yah,unshift,zp,zw,zo,pureOp,apureO,aev,cv,cvc,notExit,zW,zX,yav,zI,isC,bsD,↓reduceIte,zg,true_and,Nat.reduceLeDiff,gr]
        exact hT _ rfl
  · simp only [yan,zB,zx,zZ,zA,zl,zi,yaC,zq,isCallV,zG,zH,awpO_is,zp,yay,zw,yao,zo,pureOp,apureO,astepO,yap,yaq,yar,killT,aev,cv,cvc,binK,zF,zD,yieldA,guardA_tf,guardA_ff,yaw,pickA_f,isC,zz,bsD,zS,zf,↓reduceIte,za,zb,zh,zj,zk,zr,zd,yaa,yaj,zM,zR,zg,true_and,ne_eq,not_false_eq_true,reduceCtorEq,Nat.reduceAdd,Nat.reduceEqDiff,zu,zV,Ty.td9,Ty.td89,show ((spanN digI l : Int) == 0) = false by simpa using h0,show decide ((7 : Int) < (spanN digI l : Int)) = false from decide_eq_false (by omega),show decide ((1 : Int) < (spanN digI l : Int)) = false from decide_eq_false (by omega),gr,sr,g0,e1,e2,ofL_size]
    refine ⟨by omega, ?_⟩
    refine call_meets (hat) (by simp only [aev,cv,cvc,yai,zK,zQ,zN,isC,bsD,gr,sr,e2] <;> rfl) ?_; simp only [yan,zB,zx,zZ,zA,zl,zi,zq,isCallV,zG,zH,zp,yay,zw,upd_n,yao,zo,pureOp,apureO,astepO,yap,yaq,yar,killT,aev,cv,cvc,binK,zF,zD,storeA,cellsA,cellOk,setAll,yaw,yab,flat_tup,yag,yac,zT,zO,zL,eqOpK_n,isC,zz,bsD,zS,zf,↓reduceIte,za,zb,zh,zj,zk,zr,zd,yaf,zM,zR,zg,Bool.and_self,zE,yau,Value.oneCell',true_and,and_self,ne_eq,not_false_eq_true,reduceCtorEq,Nat.reduceAdd,Nat.reduceLeDiff,Nat.reduceEqDiff,zu,zy,zV,Ty.td9,Ty.td89,Ty.td144,gr,sr,e2,ofL_size]
    refine ⟨by omega, ?_⟩
    refine variable_ p _ hdl (fun q hq => ?_) fun hq => ?_
    · rw [hq] at hT
      simp only [yas,zB,zx,zZ,zA,zl,zi,zq,zp,zw,zo,pureOp,apureO,aev,cv,cvc,zF,yax,isC,bsD,↓reduceIte,za,zb,Nat.reduceEqDiff,gr,sr]
      refine drawS_at 12 (by kernel_rfl) (by kernel_rfl) ?_; simp only [isCallV,zP,yak,yal,zp,zw,zo,pureOp,apureO,aev,cv,cvc,zF,zD,isC,zz,zJ,bsD,zf,↓reduceIte,za,zb,zh,zj,zk,zr,zd,zg,true_and,ne_eq,not_false_eq_true,reduceCtorEq,Nat.reduceAdd,Nat.reduceEqDiff,zu,Ty.td73,Ty.td89,gr,sr]
      refine calld_meets (var_ (ofL q.1)) (by simp only [aev,cv,cvc,yai,zK,zQ,zN,isC,bsD,gr] <;> rfl) (by simp only [aev,cv,cvc,yab,yat,yaz,yag,yac,zT,zO,zL,isC,bsD,zd,zY,zU,zE,and_true,zy,gr]) ?_; simp only [zi,zq,isCallV,zG,zH,zP,zp,zw,zo,pureOp,apureO,aev,cv,cvc,binK,zF,zD,isC,zz,yam,zJ,bsD,zf,↓reduceIte,za,zb,zh,zj,zk,zr,zd,zg,true_and,ne_eq,not_false_eq_true,reduceCtorEq,Nat.reduceAdd,Nat.reduceEqDiff,zu,Ty.td3,Ty.td89,gr]
      refine add_in (c0 := c) (cs := cs) 0 (W (sg * numE (l.take (spanN digI l)))) (oneV q.1) (one_small (Nat.le_trans (varE_len hq).1 hdl)) (H3_s p) (H3_m p) (by simp [H3_len, refsT_cons, refsT_shift, ht, refsV, refsL, p.hr, p.hs]) (by rw [H3_len]; exact H3_refs p hh) ?_
      rw [H3_H2 p]
      simp only [zB,zx,yad,zA,yaB,zl,zi,zq,yae,yah,unshift,zp,zw,zo,pureOp,apureO,aev,cv,cvc,notExit,zW,zX,yav,zI,isC,bsD,↓reduceIte,zg,true_and,Nat.reduceLeDiff,gr]
      exact hT _ rfl
    · rw [hq] at hT hF2
      simp only at hT hF2
      simp only [yan,zB,zx,zZ,zA,zl,zi,zq,isCallV,zG,zH,zp,zw,zo,pureOp,apureO,aev,cv,cvc,zF,yaw,isC,bsD,zf,↓reduceIte,za,zb,zk,zr,zd,reduceCtorEq,Nat.reduceEqDiff,gr,sr]
      refine spaces_ p _ hdl ?_
      simp only [zB,zx,zA,zl,zi,zq,isCallV,zG,zH,zp,zw,zo,pureOp,apureO,aev,cv,cvc,zF,zD,isC,zz,bsD,zf,↓reduceIte,za,zh,zj,zk,zr,zd,zg,true_and,ne_eq,not_false_eq_true,reduceCtorEq,Nat.reduceAdd,zu,Ty.td9,Ty.td89,gr,sr]
      refine call_meets (prefix_ _ htl 42 (by decide)) (by simp only [aev,cv,cvc,yai,zK,zQ,zN,isC,bsD,gr,sr] <;> rfl) ?_; simp only [zZ,zA,zl,zi,zq,zp,zw,yao,zo,pureOp,apureO,killT,aev,cv,cvc,yab,zT,zO,zL,isC,bsD,↓reduceIte,zd,zE,zy,gr,sr]
      by_cases h42 : hd (trimE (l.drop (spanN digI l))) = 42
      · rw [if_pos h42] at hT hF2
        have := hd_len (l := trimE (l.drop (spanN digI l))) (by omega)
        have e3 : (ofL (trimE (l.drop (spanN digI l)))).extract 1 (trimE (l.drop (spanN digI l))).length = ofL ((trimE (l.drop (spanN digI l))).drop 1) := by rw [ofL_ext, List.take_length]
        simp only [yan,zB,zx,zA,zl,zi,zq,isCallV,zG,zH,zp,yay,zw,upd_n,yao,zo,pureOp,apureO,astepO,yap,yaq,yar,killT,aev,cv,cvc,zF,zD,storeA,cellsA,cellOk,setAll,yaw,isC,zz,bsD,zf,↓reduceIte,za,zh,zj,zk,zr,zd,yaf,zM,zR,zg,yau,Value.oneCell',true_and,ne_eq,not_false_eq_true,reduceCtorEq,Nat.reduceAdd,Nat.reduceLeDiff,Nat.reduceEqDiff,zu,Int.reduceToNat,Ty.td9,Ty.td89,show decide (hd (trimE (l.drop (spanN digI l))) = ((42 : UInt8).toNat : Int)) = true from decide_eq_true h42,gr,sr,ofL_size]
        refine ⟨by omega, by omega, ?_⟩
        simp only [e3]
        refine spaces_ p _ hul ?_
        simp only [zB,zx,zA,zl,zi,zq,isCallV,zG,zH,zp,zw,zo,pureOp,apureO,aev,cv,cvc,isC,bsD,zf,↓reduceIte,zk,zr,zd,reduceCtorEq,gr,sr]
        refine variable_ p _ hwl (fun q hq2 => ?_) fun hq2 => ?_
        · rw [hq2] at hT
          simp only [yas,zx,zA,zl,zi,zq,zp,zw,zo,pureOp,apureO,aev,cv,cvc,zF,isC,bsD,↓reduceIte,za,zb,Nat.reduceEqDiff,gr,sr]
          refine drawS_at 12 (by kernel_rfl) (by kernel_rfl) ?_; simp only [isCallV,zP,yak,yal,zp,zw,zo,pureOp,apureO,aev,cv,cvc,zF,zD,isC,zz,zJ,bsD,zf,↓reduceIte,za,zb,zh,zj,zk,zr,zd,zg,true_and,ne_eq,not_false_eq_true,reduceCtorEq,Nat.reduceAdd,Nat.reduceEqDiff,zu,Ty.td73,Ty.td89,gr,sr]
          refine calld_meets (var_ (ofL q.1)) (by simp only [aev,cv,cvc,yai,zK,zQ,zN,isC,bsD,gr] <;> rfl) (by simp only [aev,cv,cvc,yab,yat,yaz,yag,yac,zT,zO,zL,isC,bsD,zd,zY,zU,zE,and_true,zy,gr]) ?_; simp only [zi,zq,isCallV,zG,zH,zP,zp,zw,zo,pureOp,apureO,aev,cv,cvc,binK,zF,zD,isC,zz,yam,zJ,bsD,zf,↓reduceIte,za,zb,zh,zj,zk,zr,zd,zg,true_and,ne_eq,not_false_eq_true,reduceCtorEq,Nat.reduceAdd,Nat.reduceEqDiff,zu,Ty.td3,Ty.td89,gr]
          refine add_in (c0 := c) (cs := cs) 0 (W (sg * numE (l.take (spanN digI l)))) (oneV q.1) (one_small (Nat.le_trans (varE_len hq2).1 hwl)) (H3_s p) (H3_m p) (by simp [H3_len, refsT_cons, refsT_shift, ht, refsV, refsL, p.hr, p.hs]) (by rw [H3_len]; exact H3_refs p hh) ?_
          rw [H3_H2 p]
          simp only [zB,zx,yad,zA,zl,zi,zq,yae,yah,unshift,zp,zw,zo,pureOp,apureO,aev,cv,cvc,notExit,zW,zX,yav,zI,isC,bsD,↓reduceIte,zg,true_and,Nat.reduceLeDiff,Nat.reduceEqDiff,gr]
          exact hT _ rfl
        · rw [hq2] at hF2
          simp only [yas,zx,zA,zl,zi,zq,zp,zw,zo,pureOp,apureO,aev,cv,cvc,zF,isC,bsD,↓reduceIte,za,zb,Nat.reduceEqDiff,gr,sr]
          refine drawS_at 12 (by kernel_rfl) (by kernel_rfl) ?_; simp only [isCallV,zP,yak,yal,zp,zw,zo,pureOp,apureO,aev,cv,cvc,zF,zD,isC,zz,zJ,bsD,zf,↓reduceIte,za,zb,zh,zj,zk,zr,zd,zg,true_and,ne_eq,not_false_eq_true,reduceCtorEq,Nat.reduceAdd,Nat.reduceEqDiff,zu,Ty.td73,Ty.td89,gr,sr]
          refine calld_meets (var_ ⟨#[]⟩) (by simp only [aev,cv,cvc,yai,zK,zQ,zN,isC,bsD,gr] <;> rfl) (by simp only [aev,cv,cvc,yab,yat,yaz,yag,yac,zT,zO,zL,isC,bsD,zd,zY,zU,zE,and_true,zy,gr]) ?_; simp only [zi,zq,isCallV,zG,zH,zP,zp,zw,zo,pureOp,apureO,aev,cv,cvc,binK,zF,zD,isC,zz,yam,zJ,bsD,zf,↓reduceIte,za,zb,zh,zj,zk,zr,zd,zg,true_and,ne_eq,not_false_eq_true,reduceCtorEq,Nat.reduceAdd,Nat.reduceEqDiff,zu,Ty.td3,Ty.td89,gr]
          refine add_in (c0 := c) (cs := cs) 0 (W (sg * numE (l.take (spanN digI l)))) [(⟨#[]⟩, 1)] ⟨by simp, fun t ht => by simp at ht; subst ht; exact Nat.zero_le _⟩ (H3_s p) (H3_m p) (by simp [H3_len, refsT_cons, refsT_shift, ht, refsV, refsL, p.hr, p.hs]) (by rw [H3_len]; exact H3_refs p hh) ?_
          rw [H3_H2 p]
          simp only [zB,zx,yad,zA,zl,zi,zq,yae,yah,unshift,zp,zw,zo,pureOp,apureO,aev,cv,cvc,notExit,zW,zX,yav,zI,isC,bsD,↓reduceIte,zg,true_and,Nat.reduceLeDiff,Nat.reduceEqDiff,gr]
          exact hF2 rfl _ _ _ hq2 hwl
      · rw [if_neg h42] at hT
        simp only [yas,zx,aev,cv,cvc,yax,isC,bsD,yaA,show decide (hd (trimE (l.drop (spanN digI l))) = ((42 : UInt8).toNat : Int)) = false from decide_eq_false h42,gr,sr]
        refine drawS_at 10 (by kernel_rfl) (by kernel_rfl) ?_; simp only [isCallV,zP,yak,yal,zp,zw,zo,pureOp,apureO,aev,cv,cvc,zF,zD,isC,zz,zJ,bsD,zf,↓reduceIte,za,zb,zh,zj,zk,zr,zd,zg,true_and,ne_eq,not_false_eq_true,reduceCtorEq,Nat.reduceAdd,Nat.reduceEqDiff,zu,Ty.td73,Ty.td89,gr,sr]
        refine calld_meets (of_ (numE (l.take (spanN digI l)))) (by simp only [aev,cv,cvc,yai,zK,zQ,zN,isC,bsD,gr] <;> rfl) (by simp only [aev,cv,cvc,yab,yat,yaz,yag,yac,zT,zO,zL,isC,bsD,zd,zY,zU,zE,and_true,zy,gr]) ?_; simp only [zi,zq,isCallV,zG,zH,zP,zp,zw,zo,pureOp,apureO,aev,cv,cvc,zF,zD,isC,zz,yam,zJ,bsD,zf,↓reduceIte,za,zb,zh,zj,zk,zr,zd,zg,true_and,ne_eq,not_false_eq_true,reduceCtorEq,Nat.reduceAdd,Nat.reduceEqDiff,zu,Ty.td3,Ty.td89,gr]
        refine add_in (c0 := c) (cs := cs) (numE (l.take (spanN digI l))) sg [] ⟨by simp, by simp⟩ (H3_s p) (H3_m p) (by simp [H3_len, refsT_cons, refsT_shift, ht, refsV, refsL, p.hr, p.hs]) (by rw [H3_len]; exact H3_refs p hh) ?_
        rw [H3_H2 p]
        simp only [zB,zx,yad,zA,yaB,zl,zi,zq,yae,yah,unshift,zp,zw,zo,pureOp,apureO,aev,cv,cvc,notExit,zW,zX,yav,zI,isC,bsD,↓reduceIte,zg,true_and,Nat.reduceLeDiff,gr]
        exact hT _ rfl
end

end Go.Proofs.YtjgaebomcdkohaaGreatDoor.L9
