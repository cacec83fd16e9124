/- Structure: the dimensions of a result in the reference. -/
import Derived.Test.YtbmmemglkjeogaaS31
namespace Go.Proofs.Ytbmmemglkjeogaa.S32
open Go Go.Proofs.Ytbmmemglkjeogaa.Eng Go.Proofs.Ytbmmemglkjeogaa Go.RowKit Go.Proofs.Ytbmmemglkjeogaa.A1 Go.Proofs.Ytbmmemglkjeogaa.A2 Go.Proofs.Ytbmmemglkjeogaa.A3 Go.Proofs.Ytbmmemglkjeogaa.A4 Go.Proofs.Ytbmmemglkjeogaa.A5 Go.Proofs.Ytbmmemglkjeogaa.S1 Go.Proofs.Ytbmmemglkjeogaa.S2 Go.Proofs.Ytbmmemglkjeogaa.S3 Go.Proofs.Ytbmmemglkjeogaa.S4 Go.Proofs.Ytbmmemglkjeogaa.S5 Go.Proofs.Ytbmmemglkjeogaa.S6 Go.Proofs.Ytbmmemglkjeogaa.S7 Go.Proofs.Ytbmmemglkjeogaa.S8 Go.Proofs.Ytbmmemglkjeogaa.S9 Go.Proofs.Ytbmmemglkjeogaa.S13 Go.Proofs.Ytbmmemglkjeogaa.S14 Go.Proofs.Ytbmmemglkjeogaa.S29 Go.Proofs.Ytbmmemglkjeogaa.S30 Go.Proofs.Ytbmmemglkjeogaa.S31
open List renaming getElem?_cons_zero → ycN, getElem?_cons_succ → ycO, append_nil → ycP, getElem?_toArray → ycQ, length_cons → ycS, length_nil → ycU, take_succ_cons → yda, map_cons → ydb, map_nil → ydf, take_nil → ydo, isEmpty_nil → ydp, length_map → ydC, set_cons_zero → ydI, isEmpty_cons → ydJ, nil_append → ydL, range_succ → ydO, range_zero → ydP, drop_zero → ydT, all_cons → ydW, all_nil → yef, getElem?_map → yey, drop_succ_cons → yeB, set_cons_succ → yeD, cons_append → yeE, take_zero → yeF
open Bool renaming false_eq_true → ycR, true_and → ycT, and_self → ydc, or_true → ydA, or_false → ydX, and_true → yeA, and_eq_true → yeI
open Option renaming bind_some → ycV, map_some → ydd, isSome_some → ydj
open Go.Proofs.Ytbmmemglkjeogaa.Eng renaming awpOps_one → ycW, awpOps_nil → ycX, consO_some → ycZ, toDL_cons → yde, awpOp_is → ydg, toDL_nil → ydh, awp_cond → ydi, slot_is → ydk, putK_is → ydl, awp_reg → ydm, awp_seq → ydn, seqQ_n → ydq, ownsL_cons → ydr, awpOps_if → yds, ownsL_nil → ydv, put_s → ydw, condA_t → ydx, callW_is → ydy, callV_is → ydz, elO_s → ydB, awpO_is → ydD, awp_skip → ydE, loadA_d → ydF, toD_c → ydG, flat_c → ydH, guardA_tt → ydK, condA_f → ydM, upd_s → ydN, pickA_t → ydQ, resA_nil → ydR, resA_tmp → ydS, awp_block → ydU, awp_exit → ydV, ownsV_c → ydY, awp_ret → ydZ, retA_is → yea, toD_tup → yeb, flatL_cons → yec, guardA_ff → yed, elO_none → yee, loopQ_e → yeg, flatL_nil → yeh, oneA_2 → yei, toD_nils → yej, pickA_f → yek, toD_own → yel, guardA_tf → yem, flat_tup → yen, seqQ_e → yeo, blkQ_e → yep, isDL_cons → yeq, ownsV_own → yer, bsEnd_is → yet, isDL_nil → yeu, seqQ_r → yev, blkQ_n → yew, updK_is → yex, isD_c → yez, guardA_ft → yeC, ownsV_sl → yeJ
open Nat renaming zero_add → ycY, le_refl → ydu
open Int renaming le_refl → ydt, natCast_nonneg → yeG, toNat_natCast → yeH
set_option linter.unusedSimpArgs false
set_option linter.unusedVariables false
set_option linter.unusedSectionVars false
set_option maxRecDepth 100000

/-- The dimensions with the form. -/
def dimsE (e : ByteArray) (zs : List Int) (num : Int) (L : List (List Int)) : List Int × Int :=
  if formE e zs.length L.length num ≠ 0 then ([], formE e zs.length L.length num) else match opOf e with
    | none => ([], 7)
    | some o => rdE o zs num L
theorem nilE (k : Int) (ok : Nat → Prop) (w : World) (v : Value) (h : RepD ok w (.tup [.nils, I k]) v) : RepD ok w (twoI ([], k)) v :=
  tup_imp (fun _ => cons_imp (fun _ => nil_imp) fun _ h => h) h
theorem form_op {e : ByteArray} {ns nc : Nat} {num : Int} (h : formE e ns nc num = 0) : ∃ o, opOf e = some o ∧ formB o ns nc num = true := by
  cases ho : opOf e with
  | none => unfold formE at h; rw [ho] at h; simp at h
  | some o =>
    refine ⟨o, rfl, ?_⟩
    rw [form_is ho] at h
    cases hb : formB o ns nc num with
    | true => rfl
    | false => rw [hb] at h; simp at h

theorem dimsS_ (e : ByteArray) (zs : List Int) (num : Int) (L : List (List Int)) (hl : L.length ≤ 1000000) (hd : ∀ d ∈ L, d.length ≤ 1000000) : Meets Try.prog 15 [S e, ints zs, I num, lists L] (twoI (dimsE e zs num L)) := by
  have h1 := checkForm_ e zs num L.length
  unfold dimsE
  by_cases hf : formE e zs.length L.length num = 0
  · obtain ⟨o, ho, hfb⟩ := form_op hf
    rw [if_neg (by simpa using hf), ho]
    rw [hf] at h1
    have h2 := resultDims_ ho hfb hl hd
    simp only
    refine meets_of (X := false) Ty.mixed Try.func15 (by kernel_rfl) rfl (by kernel_rfl) (by simp) ?_; rw [Try.ntmps15, Try.results15]
    simp only [ydm,ydn,ydq,ycX,ycW,ydg,isCallV,ydy,ydz,ydl,ydw,ydk,pureOp,apureO,aev,cv,cvc,ydB,lenA,lenK,argT,ycR,↓reduceIte,ydb,ydf,ycP,ycT,true_and,reduceCtorEq,Nat.reduceAdd,Nat.reduceEqDiff,ycY,ydj,Ty.td35,ydC]
    refine call_meets (h1) (by simp only [aev,cv,cvc,ydG,toD_sl,ycZ,ydh,yde] <;> rfl) ?_; simp only [ydE,ydm,ydn,ydi,ydq,ycX,ycW,ydg,isCallV,ydy,ydz,ydl,ydw,ydN,ydk,pureOp,apureO,killT,aev,cv,cvc,binK,ydM,ydH,ydY,yeJ,ydv,ydr,ycR,↓reduceIte,ydb,ydf,ycP,ycT,ydA,true_and,reduceCtorEq,Nat.reduceEqDiff,ydp,bne_self_eq_false]
    refine call_meets (h2) (by simp only [aev,cv,cvc,ydG,toD_sl,ycZ,ydh,yde] <;> rfl) ?_; simp only [ydZ,ydq,ycX,ycW,ydg,ydl,ydw,ydN,ydk,yea,pureOp,apureO,killT,aev,cv,cvc,ydB,ydH,yen,flat_sl,yeh,yec,ydY,yeJ,ydv,ydr,ydG,yeb,toD_sl,ycZ,ydh,yde,notExit,ydR,ydS,yei,↓reduceIte,ycN,ycO,ycP,ydd,yeA,ydc,ydA,and_true,and_self,Nat.reduceEqDiff,ydp]
  · rw [if_pos hf]
    generalize formE e zs.length L.length num = k at *
    refine Meets.weak (r0 := .tup [.nils, I k]) ?_ (nilE k)
    refine meets_of (X := false) Ty.mixed Try.func15 (by kernel_rfl) rfl (by kernel_rfl) (by simp) ?_; rw [Try.ntmps15, Try.results15]
    simp only [ydm,ydn,ydq,ycX,ycW,ydg,isCallV,ydy,ydz,ydl,ydw,ydk,pureOp,apureO,aev,cv,cvc,ydB,lenA,lenK,argT,ycR,↓reduceIte,ydb,ydf,ycP,ycT,true_and,reduceCtorEq,Nat.reduceAdd,Nat.reduceEqDiff,ycY,ydj,Ty.td35,ydC]
    refine call_meets (h1) (by simp only [aev,cv,cvc,ydG,toD_sl,ycZ,ydh,yde,show (k != 0) = true by simpa using hf] <;> rfl) ?_; simp only [ydm,ydn,ydi,ydZ,ydq,yev,ycX,ycW,ydg,ydl,ydw,ydN,ydk,yea,pureOp,apureO,killT,aev,cv,cvc,binK,ydx,ydH,ydY,yeJ,ydv,ydr,ydG,yej,yeb,ycZ,ydh,yde,notExit,ydR,ydS,yei,↓reduceIte,ycP,ydd,ydc,ydA,and_self,Nat.reduceEqDiff,ydp,show (k != 0) = true by simpa using hf]

theorem refDims_no {e : ByteArray} {zs : List Int} {num : Int} {L : List (List Int)} (hl : L.length ≤ 4096) (hf : formE e zs.length L.length num ≠ 0) : Meets Try.prog 20 [S e, ints zs, I num, lists L] (twoI ([], formE e zs.length L.length num)) := by
  have h1 := refRight_ e zs num L.length hl
  generalize formE e zs.length L.length num = k at *
  refine Meets.weak (r0 := .tup [.nils, I k]) ?_ (nilE k)
  refine meets_of (X := false) Ty.mixed Try.func20 (by kernel_rfl) rfl (by kernel_rfl) (by simp) ?_; rw [Try.ntmps20, Try.results20]
  simp only [ydm,ydn,ydq,ycX,ycW,ydg,isCallV,ydy,ydz,ydl,ydw,ydk,pureOp,apureO,aev,cv,cvc,ydB,lenA,lenK,argT,ycR,↓reduceIte,ydb,ydf,ycP,ycT,true_and,reduceCtorEq,Nat.reduceAdd,Nat.reduceEqDiff,ycY,ydj,Ty.td35,ydC]
  refine call_meets (h1) (by simp only [aev,cv,cvc,ydG,toD_sl,ycZ,ydh,yde,show (k != 0) = true by simpa using hf] <;> rfl) ?_; simp only [ydm,ydn,ydi,ydZ,ydq,yev,ycX,ycW,ydg,ydl,ydw,ydN,ydk,yea,pureOp,apureO,killT,aev,cv,cvc,binK,ydx,ydH,ydY,yeJ,ydv,ydr,ydG,yej,yeb,ycZ,ydh,yde,notExit,ydR,ydS,yei,↓reduceIte,ycP,ydd,ydc,ydA,and_self,Nat.reduceEqDiff,ydp,show (k != 0) = true by simpa using hf]

/-- The ranks that the reference goes by. -/
theorem ranks_at {e : ByteArray} {o : Op13} {ns nc : Nat} {num : Int} (ho : opOf e = some o) (hn : nc ≤ 4096) (hf : formB o ns nc num = true) : (rksE e nc).2 = true ∧ ∀ i, i < nc → (rksE e nc).1[i]? = some (rank o i) := by
  have hr := rks_ok ho hn
  unfold formB at hf
  simp only [yeI] at hf
  have h2 : (rksE e nc).2 = true := hr.trans hf.1.1
  refine ⟨h2, fun i hi => ?_⟩
  by_cases h12 : (ix o == 12) = true
  · unfold rksE at h2 ⊢
    rw [show is_pack e = (ix o == 12) from op_is ho .pack, h12, ho] at h2 ⊢
    unfold rank
    rw [if_pos h12]
    split
    · rw [List.getElem?_eq_getElem (by simp; omega)]
      simp
    · rename_i hh
      rw [if_neg hh] at h2
      simp [h12] at h2
  · have h12' : (ix o == 12) = false := by simpa using h12
    rw [rks_op ho h12'] at h2 ⊢
    split at h2
    · simp at h2
    · rename_i hh
      rw [if_neg hh]
      have hl : ((rk o).length : Int) = nc := by simpa using (bne_eq_false_iff_eq.1 (by simpa using hh)).symm
      unfold rank
      show (rk o)[i]? = _
      rw [if_neg h12, List.getD_eq_getElem?_getD, List.getElem?_eq_getElem (by omega)]
      rfl

def fin2 (x : List Int × Int) : List Int × Int := if x.2 ≠ 0 then ([], x.2) else if (sizeE x.1).2 ≠ 0 then ([], (sizeE x.1).2) else (x.1, 0)
theorem rd_fin {o : Op13} {zs : List Int} {num : Int} {L : List (List Int)} (hr : rankB o L 0 = true) (hz : szE L = 0) : rdE o zs num L = fin2 (dm o (kOf o zs num L.length) L.flatten) := by
  unfold rdE fin2
  rw [if_neg (by simp [hr]), if_neg (by simp [hz])]

/-- The result with a nil slice where it is empty. -/
abbrev rd1 (x : List Int × Int) : AV := if x.1 = [] then .tup [.nils, I x.2] else .tup [ints x.1, I x.2]
theorem rd1_imp (x : List Int × Int) (ok : Nat → Prop) (w : World) (v : Value) (h : RepD ok w (rd1 x) v) : RepD ok w (twoI x) v := by
  obtain ⟨l, k⟩ := x
  unfold rd1 at h
  simp only at h
  split at h
  · rename_i hl
    rw [hl]
    exact nilE k ok w v h
  · exact h
theorem c00 : decide ((0 : Int) < ((0 : Nat) : Int)) = false := rfl
theorem c01 : decide ((0 : Int) < ((1 : Nat) : Int)) = true := rfl
theorem c02 : decide ((0 : Int) < ((2 : Nat) : Int)) = true := rfl
theorem c03 : decide ((0 : Int) < ((3 : Nat) : Int)) = true := rfl
theorem c0 : decide ((0 : Int) < 0) = false := rfl

set_option maxHeartbeats 8000000 in
theorem refDims_ {e : ByteArray} {o : Op13} {zs : List Int} {num : Int} {L : List (List Int)} (ho : opOf e = some o) (hform : formB o zs.length L.length num = true) (hl : L.length ≤ 4096) (hd : ∀ d ∈ L, d.length ≤ 1000000) :
    Meets Try.prog 20 [S e, ints zs, I num, lists L] (twoI (rdE o zs num L)) := by
  refine Meets.weak (r0 := rd1 (rdE o zs num L)) ?_ (rd1_imp _)
  have h1 := refRight_ e zs num L.length hl
  rw [form_is ho, hform, if_pos rfl] at h1
  have h2 := refRanks_ e L.length (by omega) (by omega)
  obtain ⟨hok, hat⟩ := ranks_at ho hl hform
  have hsd := sized_ e
  rw [sized_op ho] at hsd
  generalize rksE e L.length = r at *
  obtain ⟨rs, b⟩ := r
  simp only at hok hat h2
  subst hok
  refine meets_of (X := false) Ty.mixed Try.func20 (by kernel_rfl) rfl (by kernel_rfl) (by simp) ?_; rw [Try.ntmps20, Try.results20]
  simp only [ydm,ydn,ydq,ycX,ycW,ydg,isCallV,ydy,ydz,ydl,ydw,ydk,pureOp,apureO,aev,cv,cvc,ydB,lenA,lenK,argT,ycR,↓reduceIte,ydb,ydf,ycP,ycT,true_and,reduceCtorEq,Nat.reduceAdd,Nat.reduceEqDiff,ycY,ydj,Ty.td35,ydC]
  refine call_meets (h1) (by simp only [aev,cv,cvc,ydG,toD_sl,ycZ,ydh,yde] <;> rfl) ?_; simp only [ydE,ydm,ydn,ydi,ydq,ycX,ycW,ydg,isCallV,ydy,ydz,ydl,ydw,ydN,ydk,pureOp,apureO,killT,aev,cv,cvc,binK,ydB,lenA,lenK,ydM,ydH,ydY,yeJ,ydv,ydr,ycR,↓reduceIte,ydb,ydf,ycP,ycT,ydA,true_and,reduceCtorEq,Nat.reduceEqDiff,ydp,ydj,Ty.td35,bne_self_eq_false,ydC]
  refine call_meets (h2) (by simp only [aev,cv,cvc,ydG,ycZ,ydh,yde] <;> rfl) ?_; simp only [ydm,ydn,ydU,awp_loop,ydq,ycX,ycW,ydg,ydl,ydw,ydN,ydk,pureOp,apureO,killT,aev,cv,cvc,ydB,ydH,yen,flat_sl,yeh,yec,ydY,ydv,ydr,↓reduceIte,ycN,ycO,ycP,yeA,ydc,ydA,and_true,and_self,Nat.reduceEqDiff,ydp]
  refine loop_k (fun k : Nat => k ≤ L.length ∧ rankB o L 0 = rankB o (L.drop k) k) (fun k => ⟨197, [(13, I k), (11, ints rs), (0, S e), (1, ints zs), (2, I num), (3, lists L)], []⟩) (fun k => L.length - k) 0 ⟨Nat.zero_le _, rfl⟩ (by simp only [ydk,aev,cv,cvc,Weak,↓reduceIte,yeA,ydc,and_true,and_self,reduceCtorEq,Nat.reduceEqDiff] <;> simp) rfl rfl ?_
  rintro k ⟨hk, hi⟩ K hK
  simp only at hK
  simp only [ydm,ydn,ydi,ydq,ycX,ycW,ydg,ydl,ydw,ydk,pureOp,apureO,aev,cv,cvc,binK,ydB,lenA,lenK,↓reduceIte,ycT,true_and,reduceCtorEq,Nat.reduceEqDiff,ydj,Ty.td35,ydC]
  refine condA_dec (fun hlt => ?_) (fun hge => ?_)
  · have hlt' : k < L.length := by omega
    have hx : L[k]? = some L[k] := List.getElem?_eq_getElem hlt'
    rw [List.drop_eq_getElem_cons hlt', rankB] at hi
    have hr := hat k hlt'
    generalize L[k] = x at *
    cases hb : ((x.length : Int) != rank o k) with
    | true =>
      rw [hb] at hi
      unfold rdE
      rw [if_pos (by simpa using hi)]
      simp only [ydE,ydm,awp_regD,ydn,ydi,ydU,ydZ,ydq,yev,loopQ_r,blkQ_r,ycX,ycW,awpOpsD_nil,awpOpsD_one,ydg,awpOpD_is,lastOnly_nil,lastOnly_cons,ydl,ydw,ydk,yea,keepOp,pureOp,apureO,aev,cv,cvc,binK,ydB,yee,lenA,lenK,ydF,ydx,ydG,yej,yeb,ycZ,ydh,yde,notExit,ydR,ydS,yei,yeG,ycR,↓reduceIte,ycN,ydd,yeA,ycT,ydc,true_and,and_true,and_self,reduceCtorEq,Nat.reduceEqDiff,yeH,ydj,Ty.td3,Ty.td22,Ty.td35,yey,hx,hr,ydC,hb,rd1]
      try simp
    | false =>
      rw [hb] at hi
      simp only [ydE,ydm,awp_regD,ydn,ydi,ydU,ydq,loopQ_n,yew,ycX,ycW,awpOpsD_nil,awpOpsD_one,ydg,awpOpD_is,lastOnly_nil,lastOnly_cons,ydl,ydw,ydk,keepOp,pureOp,apureO,aev,cv,cvc,binK,ydB,yee,lenA,lenK,ydF,ydM,yeG,ycR,↓reduceIte,ycN,ydd,ycT,true_and,reduceCtorEq,Nat.reduceEqDiff,yeH,ydj,Ty.td3,Ty.td22,Ty.td35,yey,hx,hr,ydC,hb,wrap_in (x := (k : Int) + 1) (by omega) (by omega)]
      refine hK (k + 1) _ ⟨hlt', by simpa using hi⟩ (by omega) ?_ rfl rfl
      simp only [ydk,aev,cv,cvc,Weak,↓reduceIte,yeA,ydc,and_true,and_self,reduceCtorEq,Nat.reduceEqDiff]
      simp
  · have hk' : k = L.length := by omega
    subst hk'
    clear hK
    rw [List.drop_length, rankB] at hi
    simp only [ydm,ydn,ydU,awp_loop,ydV,ydq,yeo,yeg,yep,ycX,ycW,ydg,ydl,ydw,pureOp,apureO,aev,cv,cvc,↓reduceIte]
    refine loop_k (fun k : Nat => k ≤ L.length ∧ szE L = szE (L.drop k)) (fun k => ⟨197, [(14, I k), (0, S e), (1, ints zs), (2, I num), (3, lists L)], []⟩) (fun k => L.length - k) 0 ⟨Nat.zero_le _, rfl⟩ (by simp only [ydk,aev,cv,cvc,Weak,↓reduceIte,yeA,ydc,and_true,and_self,reduceCtorEq,Nat.reduceEqDiff] <;> simp) rfl rfl ?_
    rintro k ⟨hk, hi2⟩ K hK
    simp only at hK
    simp only [ydm,ydn,ydi,ydq,ycX,ycW,ydg,ydl,ydw,ydk,pureOp,apureO,aev,cv,cvc,binK,ydB,lenA,lenK,↓reduceIte,ycT,true_and,reduceCtorEq,Nat.reduceEqDiff,ydj,Ty.td35,ydC]
    refine condA_dec (fun hlt => ?_) (fun hge => ?_)
    · have hlt' : k < L.length := by omega
      have hx : L[k]? = some L[k] := List.getElem?_eq_getElem hlt'
      rw [List.drop_eq_getElem_cons hlt', szE] at hi2
      have hs := refSize L[k] (hd _ (List.getElem_mem _))
      generalize L[k] = x at *
      generalize sizeE x = z at *
      obtain ⟨n, z⟩ := z
      simp only at hi2
      by_cases hz : z = 0
      · subst hz
        rw [if_neg (by simp)] at hi2
        simp only [ydE,ydm,ydn,ydU,ydq,ycW,ydg,isCallV,ydy,ydz,ydl,ydw,ydk,pureOp,apureO,aev,cv,cvc,ydB,ydF,yeG,ycR,↓reduceIte,ycN,ydb,ydf,ycP,ydd,ycT,true_and,reduceCtorEq,Nat.reduceEqDiff,yeH,Ty.td22,Ty.td35,yey,hx]
        refine call_meets (hs) (by simp only [aev,cv,cvc,toD_sl,ycZ,ydh,yde,wrap_in (x := (k : Int) + 1) (by omega) (by omega)] <;> rfl) ?_; simp only [ydE,ydm,ydn,ydi,ydq,loopQ_n,yew,ycX,ycW,ydg,ydl,ydw,ydN,ydk,pureOp,apureO,killT,aev,cv,cvc,binK,ydB,ydM,ydH,yen,yeh,yec,yeJ,ydv,ydr,↓reduceIte,ycN,ycO,ycP,ycT,ydc,ydA,true_and,and_self,Nat.reduceEqDiff,ydp,bne_self_eq_false,wrap_in (x := (k : Int) + 1) (by omega) (by omega)]
        refine hK (k + 1) _ ⟨hlt', hi2⟩ (by omega) ?_ rfl rfl
        simp only [ydk,aev,cv,cvc,Weak,↓reduceIte,yeA,ydc,and_true,and_self,reduceCtorEq,Nat.reduceEqDiff]
        simp
      · rw [if_pos hz] at hi2
        unfold rdE
        rw [if_neg (by simp [hi]), if_pos (by rw [hi2]; exact hz), hi2]
        simp only [ydE,ydm,ydn,ydU,ydq,ycW,ydg,isCallV,ydy,ydz,ydl,ydw,ydk,pureOp,apureO,aev,cv,cvc,ydB,ydF,yeG,ycR,↓reduceIte,ycN,ydb,ydf,ycP,ydd,ycT,true_and,reduceCtorEq,Nat.reduceEqDiff,yeH,Ty.td22,Ty.td35,yey,hx]
        refine call_meets (hs) (by simp only [aev,cv,cvc,toD_sl,ycZ,ydh,yde,show (z != 0) = true by simpa using hz,rd1] <;> rfl) ?_; simp only [ydm,ydn,ydi,ydZ,ydq,yev,loopQ_r,blkQ_r,ycX,ycW,ydg,ydl,ydw,ydN,ydk,yea,pureOp,apureO,killT,aev,cv,cvc,binK,ydB,ydx,ydH,yen,yeh,yec,yeJ,ydv,ydr,ydG,yej,yeb,ycZ,ydh,yde,notExit,ydR,ydS,yei,↓reduceIte,ycN,ycO,ycP,ydd,ydc,ydA,and_self,Nat.reduceEqDiff,ydp,show (z != 0) = true by simpa using hz,rd1]
        try simp [hz]
    · have hk' : k = L.length := by omega
      subst hk'
      clear hK
      rw [List.drop_length, szE] at hi2
      have hz := fun d hd => size_ok (szE_all hi2 d hd)
      rw [rd_fin hi hi2]
      have hzl : (zs.length : Int) = sz o := by
        unfold formB at hform
        simp only [yeI] at hform
        simpa using hform.1.2
      have hll : (ix o == 12) = false → (L.length : Int) = (rk o).length := fun h => by
        unfold formB at hform
        rw [h] at hform
        simp only [ycR,if_false,yeI,beq_iff_eq] at hform
        omega
      clear h1 h2
      cases o
      case iota =>
        have t0 : is_iota e = true := op_is ho .iota
        have t1 : is_fill e = false := op_is ho .fill
        have t2 : is_take e = false := op_is ho .take
        have t3 : is_drop e = false := op_is ho .drop
        have t4 : is_reverse e = false := op_is ho .reverse
        have t5 : is_append e = false := op_is ho .append
        have t6 : is_transpose e = false := op_is ho .transpose
        have t7 : is_diagonal e = false := op_is ho .diagonal
        have t8 : is_windows e = false := op_is ho .windows
        have t9 : is_chunk e = false := op_is ho .chunk
        have t10 : is_index e = false := op_is ho .index
        have t11 : is_update e = false := op_is ho .update
        have t12 : is_pack e = false := op_is ho .pack
        replace hsd : Meets Try.prog 50 [S e] (B true) := hsd
        replace hll : L.length = 0 := Int.ofNat_inj.1 (hll rfl)
        obtain rfl := List.eq_nil_of_length_eq_zero hll
        obtain ⟨k, rfl⟩ := List.length_eq_one_iff.1 (Int.ofNat_inj.1 hzl)
        clear hi hi2 hz hd
        by_cases k0 : k < 0
        · skip
          rw [show dm Op13.iota (kOf Op13.iota [k] num ([] : List (List Int)).length) ([] : List (List Int)).flatten = ([], 2) by show wi k (max k 0) [k] = _; unfold wi; rw [if_pos (Or.inl k0)]]
          simp only [ydE,ydm,ydn,ydi,ydV,ydq,yeo,yeg,yep,ycX,ycW,yds,ydg,isCallV,ydy,ydz,ydl,ydw,ydk,pureOp,apureO,aev,cv,cvc,binK,ydB,lenA,lenK,yieldA,yem,ydM,yek,ycR,↓reduceIte,ycN,ycO,ycU,ydb,ydf,ycP,ycQ,ycV,ycT,true_and,reduceCtorEq,Nat.reduceEqDiff,ydj,Ty.td35,t0,t1,t2,t3,t4,t5,t6,t7,t8,t9,t10,t11,t12,c00,c01,c02,c03,c0,lists,ints,k0]
          refine call_meets (hsd) (by simp only [aev,cv,cvc,ydG,ycZ,ydh,yde,t0,t1,t2,t3,t4,t5,t6,t7,t8,t9,t10,t11,t12,c00,c01,c02,c03,c0,k0,rd1] <;> rfl) ?_; simp only [ydm,ydn,ydi,ydZ,ydq,yev,ycX,ycW,yds,ydg,ydl,ydw,ydN,ydk,yea,pureOp,apureO,killT,aev,cv,cvc,binK,ydB,ydF,yieldA,guardA_no,yeC,ydx,ydQ,ydH,ydY,ydv,ydr,ydG,yej,yeb,ycZ,ydh,yde,notExit,ydR,ydS,yei,ycR,↓reduceIte,ycN,ycO,ycP,ycQ,ycV,ydd,ycT,ydA,true_and,ne_eq,reduceCtorEq,Nat.reduceEqDiff,ydp,Int.reduceToNat,decide_true,ydt,Ty.td3,Ty.td22,t0,t1,t2,t3,t4,t5,t6,t7,t8,t9,t10,t11,t12,c00,c01,c02,c03,c0,ints,k0,fin2,rd1]
          try simp
        · skip
          rw [show dm Op13.iota (kOf Op13.iota [k] num ([] : List (List Int)).length) ([] : List (List Int)).flatten = ([k], 0) by show wi k (max k 0) [k] = _; unfold wi; rw [if_neg (by omega)]]
          have hs := refSize [k] (by simp)
          rw [show fin2 ([k], 0) = if (sizeE [k]).2 ≠ 0 then ([], (sizeE [k]).2) else ([k], 0) from rfl]
          generalize sizeE [k] = z at *
          obtain ⟨q, z⟩ := z
          simp only [ints,ydb,ydf] at hs
          by_cases z0 : z = 0
          · subst z0
            simp only [ydE,ydm,ydn,ydi,ydV,ydq,yeo,yeg,yep,ycX,ycW,yds,ydg,isCallV,ydy,ydz,ydl,ydw,ydk,pureOp,apureO,aev,cv,cvc,binK,ydB,lenA,lenK,yieldA,yem,ydM,yek,ycR,↓reduceIte,ycN,ycO,ycU,ydb,ydf,ycP,ycQ,ycV,ycT,true_and,ne_eq,not_true_eq_false,reduceCtorEq,Nat.reduceEqDiff,ydj,Ty.td35,t0,t1,t2,t3,t4,t5,t6,t7,t8,t9,t10,t11,t12,c00,c01,c02,c03,c0,lists,ints,k0]
            refine call_meets (hsd) (by simp only [aev,cv,cvc,ydG,ycZ,ydh,yde,t0,t1,t2,t3,t4,t5,t6,t7,t8,t9,t10,t11,t12,c00,c01,c02,c03,c0,k0] <;> rfl) ?_; simp only [ydE,ydm,ydn,ydi,ydU,ydq,yew,ycX,ycW,yds,ydg,isCallV,ydy,ydz,ydD,ydl,yex,ydw,ydN,ydk,slot.eq_1,pureOp,apureO,astepO,yet,killT,aev,cv,cvc,binK,ydB,ydF,cellsA,cellOk,setAll,fillA,yieldA,yem,yed,ydx,ydM,yek,chunk,ydH,yez,yeu,yeq,ydY,ydv,ydr,ycR,↓reduceIte,ycN,ycO,ycS,ycU,ydb,ydf,ydL,ycP,ydI,ycQ,ycV,yda,ydT,ydW,yef,ycT,ydc,ydA,Value.oneCell',true_and,and_self,reduceCtorEq,Nat.reduceMul,Nat.reduceLT,Nat.reduceLeDiff,Nat.reduceEqDiff,Nat.reduceMod,ycY,ydp,Int.reduceToNat,ydO,ydP,decide_false,ydu,ydo,ydt,Ty.td3,Ty.td22,t0,t1,t2,t3,t4,t5,t6,t7,t8,t9,t10,t11,t12,c00,c01,c02,c03,c0,ydC,k0]
            repeat refine ⟨by omega, ?_⟩
            refine call_meets (hs) (by simp only [aev,cv,cvc,elemsA,yel,ycZ,ydh,yde,↓reduceIte,ycN,ycS,ycU,ydd,yda,ydc,and_self,ycY,ydu,ydo,rd1] <;> rfl) ?_; simp only [ydE,ydm,ydn,ydi,ydZ,ydq,ycX,ycW,ydg,ydl,ydw,ydN,ydk,yea,pureOp,apureO,killT,aev,cv,cvc,binK,ydB,ydM,elemsA,ydH,yen,yeh,yec,yer,ydv,ydr,ydG,yeb,yel,ycZ,ydh,yde,notExit,ydR,ydS,yei,↓reduceIte,ycN,ycO,ycS,ycU,ycP,ydd,yda,ycT,ydc,ydX,true_and,and_self,reduceCtorEq,Nat.reduceEqDiff,ycY,ydJ,or_false,ydu,ydo,bne_self_eq_false,rd1]
            try simp
          · simp only [ydE,ydm,ydn,ydi,ydV,ydq,yeo,yeg,yep,ycX,ycW,yds,ydg,isCallV,ydy,ydz,ydl,ydw,ydk,pureOp,apureO,aev,cv,cvc,binK,ydB,lenA,lenK,yieldA,yem,ydM,yek,ycR,↓reduceIte,ycN,ycO,ycU,ydb,ydf,ycP,ycQ,ycV,ycT,true_and,ne_eq,reduceCtorEq,Nat.reduceEqDiff,ydj,Ty.td35,t0,t1,t2,t3,t4,t5,t6,t7,t8,t9,t10,t11,t12,c00,c01,c02,c03,c0,lists,ints,k0]
            refine call_meets (hsd) (by simp only [aev,cv,cvc,ydG,ycZ,ydh,yde,t0,t1,t2,t3,t4,t5,t6,t7,t8,t9,t10,t11,t12,c00,c01,c02,c03,c0,k0] <;> rfl) ?_; simp only [ydE,ydm,ydn,ydi,ydU,ydq,yew,ycX,ycW,yds,ydg,isCallV,ydy,ydz,ydD,ydl,yex,ydw,ydN,ydk,slot.eq_1,pureOp,apureO,astepO,yet,killT,aev,cv,cvc,binK,ydB,ydF,cellsA,cellOk,setAll,fillA,yieldA,yem,yed,ydx,ydM,yek,chunk,ydH,yez,yeu,yeq,ydY,ydv,ydr,ycR,↓reduceIte,ycN,ycO,ycS,ycU,ydb,ydf,ydL,ycP,ydI,ycQ,ycV,yda,ydT,ydW,yef,ycT,ydc,ydA,Value.oneCell',true_and,and_self,reduceCtorEq,Nat.reduceMul,Nat.reduceLT,Nat.reduceLeDiff,Nat.reduceEqDiff,Nat.reduceMod,ycY,ydp,Int.reduceToNat,ydO,ydP,decide_false,ydu,ydo,ydt,Ty.td3,Ty.td22,t0,t1,t2,t3,t4,t5,t6,t7,t8,t9,t10,t11,t12,c00,c01,c02,c03,c0,ydC,k0]
            repeat refine ⟨by omega, ?_⟩
            refine call_meets (hs) (by simp only [aev,cv,cvc,elemsA,yel,ycZ,ydh,yde,↓reduceIte,ycN,ycS,ycU,ydd,yda,ydc,and_self,ycY,ydu,ydo,show (z != 0) = true by simpa using z0,rd1] <;> rfl) ?_; simp only [ydm,ydn,ydi,ydZ,ydq,yev,ycX,ycW,ydg,ydl,ydw,ydN,ydk,yea,pureOp,apureO,killT,aev,cv,cvc,binK,ydB,ydx,ydH,yen,yeh,yec,yer,ydv,ydr,ydG,yej,yeb,ycZ,ydh,yde,notExit,ydR,ydS,yei,↓reduceIte,ycN,ycO,ycP,ydd,ycT,ydc,ydX,true_and,and_self,Nat.reduceEqDiff,ydJ,or_false,show (z != 0) = true by simpa using z0,rd1]
            try simp [z0]
      case fill =>
        have t0 : is_iota e = false := op_is ho .iota
        have t1 : is_fill e = true := op_is ho .fill
        have t2 : is_take e = false := op_is ho .take
        have t3 : is_drop e = false := op_is ho .drop
        have t4 : is_reverse e = false := op_is ho .reverse
        have t5 : is_append e = false := op_is ho .append
        have t6 : is_transpose e = false := op_is ho .transpose
        have t7 : is_diagonal e = false := op_is ho .diagonal
        have t8 : is_windows e = false := op_is ho .windows
        have t9 : is_chunk e = false := op_is ho .chunk
        have t10 : is_index e = false := op_is ho .index
        have t11 : is_update e = false := op_is ho .update
        have t12 : is_pack e = false := op_is ho .pack
        replace hsd : Meets Try.prog 50 [S e] (B true) := hsd
        replace hll : L.length = 1 := Int.ofNat_inj.1 (hll rfl)
        obtain ⟨xs, rfl⟩ := List.length_eq_one_iff.1 hll
        obtain ⟨k, rfl⟩ := List.length_eq_one_iff.1 (Int.ofNat_inj.1 hzl)
        have hs0 : xs.length = 0 := by have := hi; simp [rankB, rank, rk, ix] at this; first | omega | (obtain ⟨h1, h2, h3⟩ := this; subst_vars; simp_all; done) | (obtain ⟨h1, h2⟩ := this; subst_vars; simp_all; done) | (subst_vars; rfl)
        obtain rfl := List.eq_nil_of_length_eq_zero hs0
        clear hi hi2 hz hd
        by_cases k0 : k < 0
        · skip
          rw [show dm Op13.fill (kOf Op13.fill [k] num ([[]] : List (List Int)).length) ([[]] : List (List Int)).flatten = ([], 2) by show wi k (max k 0) [k] = _; unfold wi; rw [if_pos (Or.inl k0)]]
          simp only [ydE,ydm,ydn,ydi,ydV,ydq,yeo,yeg,yep,ycX,ycW,yds,ydg,isCallV,ydy,ydz,ydD,ydl,ydw,ydk,pureOp,apureO,aev,cv,cvc,binK,ydB,yee,lenA,lenK,ydF,yieldA,ydK,ydM,ydQ,ycR,↓reduceIte,ycN,ycO,ycS,ycU,ydb,ydf,ycP,ycQ,ycV,ycT,true_and,reduceCtorEq,Nat.reduceEqDiff,ycY,Int.reduceToNat,ydj,ydt,Ty.td22,Ty.td35,t0,t1,t2,t3,t4,t5,t6,t7,t8,t9,t10,t11,t12,c00,c01,c02,c03,c0,lists,ints,k0]
          refine call_meets (hsd) (by simp only [aev,cv,cvc,ydG,ycZ,ydh,yde,t0,t1,t2,t3,t4,t5,t6,t7,t8,t9,t10,t11,t12,c00,c01,c02,c03,c0,k0,rd1] <;> rfl) ?_; simp only [ydm,ydn,ydi,ydZ,ydq,yev,ycX,ycW,yds,ydg,ydl,ydw,ydN,ydk,yea,pureOp,apureO,killT,aev,cv,cvc,binK,ydB,ydF,yieldA,guardA_no,yeC,ydx,ydQ,ydH,ydY,ydv,ydr,ydG,yej,yeb,ycZ,ydh,yde,notExit,ydR,ydS,yei,ycR,↓reduceIte,ycN,ycO,ycP,ycQ,ycV,ydd,ycT,ydA,true_and,ne_eq,reduceCtorEq,Nat.reduceEqDiff,ydp,Int.reduceToNat,decide_true,ydt,Ty.td3,Ty.td22,t0,t1,t2,t3,t4,t5,t6,t7,t8,t9,t10,t11,t12,c00,c01,c02,c03,c0,ints,k0,fin2,rd1]
          try simp
        · skip
          rw [show dm Op13.fill (kOf Op13.fill [k] num ([[]] : List (List Int)).length) ([[]] : List (List Int)).flatten = ([k], 0) by show wi k (max k 0) [k] = _; unfold wi; rw [if_neg (by omega)]]
          have hs := refSize [k] (by simp)
          rw [show fin2 ([k], 0) = if (sizeE [k]).2 ≠ 0 then ([], (sizeE [k]).2) else ([k], 0) from rfl]
          generalize sizeE [k] = z at *
          obtain ⟨q, z⟩ := z
          simp only [ints,ydb,ydf] at hs
          by_cases z0 : z = 0
          · subst z0
            simp only [ydE,ydm,ydn,ydi,ydV,ydq,yeo,yeg,yep,ycX,ycW,yds,ydg,isCallV,ydy,ydz,ydD,ydl,ydw,ydk,pureOp,apureO,aev,cv,cvc,binK,ydB,yee,lenA,lenK,ydF,yieldA,ydK,ydM,ydQ,ycR,↓reduceIte,ycN,ycO,ycS,ycU,ydb,ydf,ycP,ycQ,ycV,ycT,true_and,ne_eq,not_true_eq_false,reduceCtorEq,Nat.reduceEqDiff,ycY,Int.reduceToNat,ydj,ydt,Ty.td22,Ty.td35,t0,t1,t2,t3,t4,t5,t6,t7,t8,t9,t10,t11,t12,c00,c01,c02,c03,c0,lists,ints,k0]
            refine call_meets (hsd) (by simp only [aev,cv,cvc,ydG,ycZ,ydh,yde,t0,t1,t2,t3,t4,t5,t6,t7,t8,t9,t10,t11,t12,c00,c01,c02,c03,c0,k0] <;> rfl) ?_; simp only [ydE,ydm,ydn,ydi,ydU,ydq,yew,ycX,ycW,yds,ydg,isCallV,ydy,ydz,ydD,ydl,yex,ydw,ydN,ydk,slot.eq_1,pureOp,apureO,astepO,yet,killT,aev,cv,cvc,binK,ydB,ydF,cellsA,cellOk,setAll,fillA,yieldA,yem,yed,ydx,ydM,yek,chunk,ydH,yez,yeu,yeq,ydY,ydv,ydr,ycR,↓reduceIte,ycN,ycO,ycS,ycU,ydb,ydf,ydL,ycP,ydI,ycQ,ycV,yda,ydT,ydW,yef,ycT,ydc,ydA,Value.oneCell',true_and,and_self,reduceCtorEq,Nat.reduceMul,Nat.reduceLT,Nat.reduceLeDiff,Nat.reduceEqDiff,Nat.reduceMod,ycY,ydp,Int.reduceToNat,ydO,ydP,decide_false,ydu,ydo,ydt,Ty.td3,Ty.td22,t0,t1,t2,t3,t4,t5,t6,t7,t8,t9,t10,t11,t12,c00,c01,c02,c03,c0,ydC,k0]
            repeat refine ⟨by omega, ?_⟩
            refine call_meets (hs) (by simp only [aev,cv,cvc,elemsA,yel,ycZ,ydh,yde,↓reduceIte,ycN,ycS,ycU,ydd,yda,ydc,and_self,ycY,ydu,ydo,rd1] <;> rfl) ?_; simp only [ydE,ydm,ydn,ydi,ydZ,ydq,ycX,ycW,ydg,ydl,ydw,ydN,ydk,yea,pureOp,apureO,killT,aev,cv,cvc,binK,ydB,ydM,elemsA,ydH,yen,yeh,yec,yer,ydv,ydr,ydG,yeb,yel,ycZ,ydh,yde,notExit,ydR,ydS,yei,↓reduceIte,ycN,ycO,ycS,ycU,ycP,ydd,yda,ycT,ydc,ydX,true_and,and_self,reduceCtorEq,Nat.reduceEqDiff,ycY,ydJ,or_false,ydu,ydo,bne_self_eq_false,rd1]
            try simp
          · simp only [ydE,ydm,ydn,ydi,ydV,ydq,yeo,yeg,yep,ycX,ycW,yds,ydg,isCallV,ydy,ydz,ydD,ydl,ydw,ydk,pureOp,apureO,aev,cv,cvc,binK,ydB,yee,lenA,lenK,ydF,yieldA,ydK,ydM,ydQ,ycR,↓reduceIte,ycN,ycO,ycS,ycU,ydb,ydf,ycP,ycQ,ycV,ycT,true_and,ne_eq,reduceCtorEq,Nat.reduceEqDiff,ycY,Int.reduceToNat,ydj,ydt,Ty.td22,Ty.td35,t0,t1,t2,t3,t4,t5,t6,t7,t8,t9,t10,t11,t12,c00,c01,c02,c03,c0,lists,ints,k0]
            refine call_meets (hsd) (by simp only [aev,cv,cvc,ydG,ycZ,ydh,yde,t0,t1,t2,t3,t4,t5,t6,t7,t8,t9,t10,t11,t12,c00,c01,c02,c03,c0,k0] <;> rfl) ?_; simp only [ydE,ydm,ydn,ydi,ydU,ydq,yew,ycX,ycW,yds,ydg,isCallV,ydy,ydz,ydD,ydl,yex,ydw,ydN,ydk,slot.eq_1,pureOp,apureO,astepO,yet,killT,aev,cv,cvc,binK,ydB,ydF,cellsA,cellOk,setAll,fillA,yieldA,yem,yed,ydx,ydM,yek,chunk,ydH,yez,yeu,yeq,ydY,ydv,ydr,ycR,↓reduceIte,ycN,ycO,ycS,ycU,ydb,ydf,ydL,ycP,ydI,ycQ,ycV,yda,ydT,ydW,yef,ycT,ydc,ydA,Value.oneCell',true_and,and_self,reduceCtorEq,Nat.reduceMul,Nat.reduceLT,Nat.reduceLeDiff,Nat.reduceEqDiff,Nat.reduceMod,ycY,ydp,Int.reduceToNat,ydO,ydP,decide_false,ydu,ydo,ydt,Ty.td3,Ty.td22,t0,t1,t2,t3,t4,t5,t6,t7,t8,t9,t10,t11,t12,c00,c01,c02,c03,c0,ydC,k0]
            repeat refine ⟨by omega, ?_⟩
            refine call_meets (hs) (by simp only [aev,cv,cvc,elemsA,yel,ycZ,ydh,yde,↓reduceIte,ycN,ycS,ycU,ydd,yda,ydc,and_self,ycY,ydu,ydo,show (z != 0) = true by simpa using z0,rd1] <;> rfl) ?_; simp only [ydm,ydn,ydi,ydZ,ydq,yev,ycX,ycW,ydg,ydl,ydw,ydN,ydk,yea,pureOp,apureO,killT,aev,cv,cvc,binK,ydB,ydx,ydH,yen,yeh,yec,yer,ydv,ydr,ydG,yej,yeb,ycZ,ydh,yde,notExit,ydR,ydS,yei,↓reduceIte,ycN,ycO,ycP,ydd,ycT,ydc,ydX,true_and,and_self,Nat.reduceEqDiff,ydJ,or_false,show (z != 0) = true by simpa using z0,rd1]
            try simp [z0]
      case take =>
        have t0 : is_iota e = false := op_is ho .iota
        have t1 : is_fill e = false := op_is ho .fill
        have t2 : is_take e = true := op_is ho .take
        have t3 : is_drop e = false := op_is ho .drop
        have t4 : is_reverse e = false := op_is ho .reverse
        have t5 : is_append e = false := op_is ho .append
        have t6 : is_transpose e = false := op_is ho .transpose
        have t7 : is_diagonal e = false := op_is ho .diagonal
        have t8 : is_windows e = false := op_is ho .windows
        have t9 : is_chunk e = false := op_is ho .chunk
        have t10 : is_index e = false := op_is ho .index
        have t11 : is_update e = false := op_is ho .update
        have t12 : is_pack e = false := op_is ho .pack
        replace hsd : Meets Try.prog 50 [S e] (B true) := hsd
        replace hll : L.length = 1 := Int.ofNat_inj.1 (hll rfl)
        obtain ⟨xs, rfl⟩ := List.length_eq_one_iff.1 hll
        obtain ⟨k, rfl⟩ := List.length_eq_one_iff.1 (Int.ofNat_inj.1 hzl)
        have hs0 : xs.length = 1 := by have := hi; simp [rankB, rank, rk, ix] at this; first | omega | (obtain ⟨h1, h2, h3⟩ := this; subst_vars; simp_all; done) | (obtain ⟨h1, h2⟩ := this; subst_vars; simp_all; done) | (subst_vars; rfl)
        obtain ⟨n, rfl⟩ := List.length_eq_one_iff.1 hs0
        have bn := hz [n] (by simp) n (by simp)
        clear hi hi2 hz hd
        by_cases k0 : k < 0
        · skip
          rw [show dm Op13.take (kOf Op13.take [k] num ([[n]] : List (List Int)).length) ([[n]] : List (List Int)).flatten = ([], 2) by show wi k n [k] = _; unfold wi; rw [if_pos (Or.inl k0)]]
          simp only [ydm,ydn,ydi,ydV,ydq,yeo,yeg,yep,ycX,ycW,yds,ydg,isCallV,ydy,ydz,ydD,ydl,ydw,ydk,pureOp,apureO,aev,cv,cvc,binK,ydB,yee,lenA,lenK,ydF,yieldA,ydK,ydx,ydQ,ycR,↓reduceIte,ycN,ycO,ycS,ycU,ydb,ydf,ycP,ycQ,ycV,ycT,true_and,reduceCtorEq,Nat.reduceEqDiff,ycY,Int.reduceToNat,ydj,ydt,Ty.td3,Ty.td22,Ty.td35,t0,t1,t2,t3,t4,t5,t6,t7,t8,t9,t10,t11,t12,c00,c01,c02,c03,c0,lists,ints,k0]
          refine call_meets (hsd) (by simp only [aev,cv,cvc,ydG,ycZ,ydh,yde,t0,t1,t2,t3,t4,t5,t6,t7,t8,t9,t10,t11,t12,c00,c01,c02,c03,c0,k0,rd1] <;> rfl) ?_; simp only [ydm,ydn,ydi,ydZ,ydq,yev,ycX,ycW,yds,ydg,ydl,ydw,ydN,ydk,yea,pureOp,apureO,killT,aev,cv,cvc,binK,ydB,ydF,yieldA,guardA_no,yeC,ydx,ydQ,ydH,ydY,ydv,ydr,ydG,yej,yeb,ycZ,ydh,yde,notExit,ydR,ydS,yei,ycR,↓reduceIte,ycN,ycO,ycP,ycQ,ycV,ydd,ycT,ydA,true_and,ne_eq,reduceCtorEq,Nat.reduceEqDiff,ydp,Int.reduceToNat,decide_true,ydt,Ty.td3,Ty.td22,t0,t1,t2,t3,t4,t5,t6,t7,t8,t9,t10,t11,t12,c00,c01,c02,c03,c0,ints,k0,fin2,rd1]
          try simp
        · by_cases k1 : n < k
          · skip
            rw [show dm Op13.take (kOf Op13.take [k] num ([[n]] : List (List Int)).length) ([[n]] : List (List Int)).flatten = ([], 2) by show wi k n [k] = _; unfold wi; rw [if_pos (Or.inr k1)]]
            simp only [ydm,ydn,ydi,ydV,ydq,yeo,yeg,yep,ycX,ycW,yds,ydg,isCallV,ydy,ydz,ydD,ydl,ydw,ydk,pureOp,apureO,aev,cv,cvc,binK,ydB,yee,lenA,lenK,ydF,yieldA,ydK,ydx,ydQ,ycR,↓reduceIte,ycN,ycO,ycS,ycU,ydb,ydf,ycP,ycQ,ycV,ycT,true_and,reduceCtorEq,Nat.reduceEqDiff,ycY,Int.reduceToNat,ydj,ydt,Ty.td3,Ty.td22,Ty.td35,t0,t1,t2,t3,t4,t5,t6,t7,t8,t9,t10,t11,t12,c00,c01,c02,c03,c0,lists,ints,k0,k1]
            refine call_meets (hsd) (by simp only [aev,cv,cvc,ydG,ycZ,ydh,yde,t0,t1,t2,t3,t4,t5,t6,t7,t8,t9,t10,t11,t12,c00,c01,c02,c03,c0,k0,k1,rd1] <;> rfl) ?_; simp only [ydm,ydn,ydi,ydZ,ydq,yev,ycX,ycW,yds,ydg,ydD,ydl,ydw,ydN,ydk,yea,pureOp,apureO,killT,aev,cv,cvc,binK,ydB,ydF,yieldA,ydK,yeC,yed,ydx,ydQ,yek,ydH,ydY,ydv,ydr,ydG,yej,yeb,ycZ,ydh,yde,notExit,ydR,ydS,yei,ycR,↓reduceIte,ycN,ycO,ycP,ycQ,ycV,ydd,ycT,ydA,true_and,ne_eq,reduceCtorEq,Nat.reduceEqDiff,ydp,Int.reduceToNat,decide_true,decide_false,ydt,Ty.td3,Ty.td22,t0,t1,t2,t3,t4,t5,t6,t7,t8,t9,t10,t11,t12,c00,c01,c02,c03,c0,ints,k0,k1,fin2,rd1]
            try simp
          · skip
            rw [show dm Op13.take (kOf Op13.take [k] num ([[n]] : List (List Int)).length) ([[n]] : List (List Int)).flatten = ([k], 0) by show wi k n [k] = _; unfold wi; rw [if_neg (by omega)]]
            have hs := refSize [k] (by simp)
            rw [show fin2 ([k], 0) = if (sizeE [k]).2 ≠ 0 then ([], (sizeE [k]).2) else ([k], 0) from rfl]
            generalize sizeE [k] = z at *
            obtain ⟨q, z⟩ := z
            simp only [ints,ydb,ydf] at hs
            by_cases z0 : z = 0
            · subst z0
              simp only [ydm,ydn,ydi,ydV,ydq,yeo,yeg,yep,ycX,ycW,yds,ydg,isCallV,ydy,ydz,ydD,ydl,ydw,ydk,pureOp,apureO,aev,cv,cvc,binK,ydB,yee,lenA,lenK,ydF,yieldA,ydK,ydx,ydQ,ycR,↓reduceIte,ycN,ycO,ycS,ycU,ydb,ydf,ycP,ycQ,ycV,ycT,true_and,ne_eq,not_true_eq_false,reduceCtorEq,Nat.reduceEqDiff,ycY,Int.reduceToNat,ydj,ydt,Ty.td3,Ty.td22,Ty.td35,t0,t1,t2,t3,t4,t5,t6,t7,t8,t9,t10,t11,t12,c00,c01,c02,c03,c0,lists,ints,k0,k1]
              refine call_meets (hsd) (by simp only [aev,cv,cvc,ydG,ycZ,ydh,yde,t0,t1,t2,t3,t4,t5,t6,t7,t8,t9,t10,t11,t12,c00,c01,c02,c03,c0,k0,k1] <;> rfl) ?_; simp only [ydE,ydm,ydn,ydi,ydU,ydq,yew,ycX,ycW,yds,ydg,isCallV,ydy,ydz,ydD,ydl,yex,ydw,ydN,ydk,slot.eq_1,pureOp,apureO,astepO,yet,killT,aev,cv,cvc,binK,ydB,ydF,cellsA,cellOk,setAll,fillA,yieldA,ydK,yeC,yed,ydx,ydM,ydQ,yek,chunk,ydH,yez,yeu,yeq,ydY,ydv,ydr,ycR,↓reduceIte,ycN,ycO,ycS,ycU,ydb,ydf,ydL,ycP,ydI,ycQ,ycV,yda,ydT,ydW,yef,ycT,ydc,ydA,Value.oneCell',true_and,and_self,reduceCtorEq,Nat.reduceMul,Nat.reduceLT,Nat.reduceLeDiff,Nat.reduceEqDiff,Nat.reduceMod,ycY,ydp,Int.reduceToNat,ydO,ydP,decide_false,ydu,ydo,ydt,Ty.td3,Ty.td22,t0,t1,t2,t3,t4,t5,t6,t7,t8,t9,t10,t11,t12,c00,c01,c02,c03,c0,ydC,k0,k1]
              repeat refine ⟨by omega, ?_⟩
              refine call_meets (hs) (by simp only [aev,cv,cvc,elemsA,yel,ycZ,ydh,yde,↓reduceIte,ycN,ycS,ycU,ydd,yda,ydc,and_self,ycY,ydu,ydo,rd1] <;> rfl) ?_; simp only [ydE,ydm,ydn,ydi,ydZ,ydq,ycX,ycW,ydg,ydl,ydw,ydN,ydk,yea,pureOp,apureO,killT,aev,cv,cvc,binK,ydB,ydM,elemsA,ydH,yen,yeh,yec,yer,ydv,ydr,ydG,yeb,yel,ycZ,ydh,yde,notExit,ydR,ydS,yei,↓reduceIte,ycN,ycO,ycS,ycU,ycP,ydd,yda,ycT,ydc,ydX,true_and,and_self,reduceCtorEq,Nat.reduceEqDiff,ycY,ydJ,or_false,ydu,ydo,bne_self_eq_false,rd1]
              try simp
            · simp only [ydm,ydn,ydi,ydV,ydq,yeo,yeg,yep,ycX,ycW,yds,ydg,isCallV,ydy,ydz,ydD,ydl,ydw,ydk,pureOp,apureO,aev,cv,cvc,binK,ydB,yee,lenA,lenK,ydF,yieldA,ydK,ydx,ydQ,ycR,↓reduceIte,ycN,ycO,ycS,ycU,ydb,ydf,ycP,ycQ,ycV,ycT,true_and,ne_eq,reduceCtorEq,Nat.reduceEqDiff,ycY,Int.reduceToNat,ydj,ydt,Ty.td3,Ty.td22,Ty.td35,t0,t1,t2,t3,t4,t5,t6,t7,t8,t9,t10,t11,t12,c00,c01,c02,c03,c0,lists,ints,k0,k1]
              refine call_meets (hsd) (by simp only [aev,cv,cvc,ydG,ycZ,ydh,yde,t0,t1,t2,t3,t4,t5,t6,t7,t8,t9,t10,t11,t12,c00,c01,c02,c03,c0,k0,k1] <;> rfl) ?_; simp only [ydE,ydm,ydn,ydi,ydU,ydq,yew,ycX,ycW,yds,ydg,isCallV,ydy,ydz,ydD,ydl,yex,ydw,ydN,ydk,slot.eq_1,pureOp,apureO,astepO,yet,killT,aev,cv,cvc,binK,ydB,ydF,cellsA,cellOk,setAll,fillA,yieldA,ydK,yeC,yed,ydx,ydM,ydQ,yek,chunk,ydH,yez,yeu,yeq,ydY,ydv,ydr,ycR,↓reduceIte,ycN,ycO,ycS,ycU,ydb,ydf,ydL,ycP,ydI,ycQ,ycV,yda,ydT,ydW,yef,ycT,ydc,ydA,Value.oneCell',true_and,and_self,reduceCtorEq,Nat.reduceMul,Nat.reduceLT,Nat.reduceLeDiff,Nat.reduceEqDiff,Nat.reduceMod,ycY,ydp,Int.reduceToNat,ydO,ydP,decide_false,ydu,ydo,ydt,Ty.td3,Ty.td22,t0,t1,t2,t3,t4,t5,t6,t7,t8,t9,t10,t11,t12,c00,c01,c02,c03,c0,ydC,k0,k1]
              repeat refine ⟨by omega, ?_⟩
              refine call_meets (hs) (by simp only [aev,cv,cvc,elemsA,yel,ycZ,ydh,yde,↓reduceIte,ycN,ycS,ycU,ydd,yda,ydc,and_self,ycY,ydu,ydo,show (z != 0) = true by simpa using z0,rd1] <;> rfl) ?_; simp only [ydm,ydn,ydi,ydZ,ydq,yev,ycX,ycW,ydg,ydl,ydw,ydN,ydk,yea,pureOp,apureO,killT,aev,cv,cvc,binK,ydB,ydx,ydH,yen,yeh,yec,yer,ydv,ydr,ydG,yej,yeb,ycZ,ydh,yde,notExit,ydR,ydS,yei,↓reduceIte,ycN,ycO,ycP,ydd,ycT,ydc,ydX,true_and,and_self,Nat.reduceEqDiff,ydJ,or_false,show (z != 0) = true by simpa using z0,rd1]
              try simp [z0]
      case drop =>
        have t0 : is_iota e = false := op_is ho .iota
        have t1 : is_fill e = false := op_is ho .fill
        have t2 : is_take e = false := op_is ho .take
        have t3 : is_drop e = true := op_is ho .drop
        have t4 : is_reverse e = false := op_is ho .reverse
        have t5 : is_append e = false := op_is ho .append
        have t6 : is_transpose e = false := op_is ho .transpose
        have t7 : is_diagonal e = false := op_is ho .diagonal
        have t8 : is_windows e = false := op_is ho .windows
        have t9 : is_chunk e = false := op_is ho .chunk
        have t10 : is_index e = false := op_is ho .index
        have t11 : is_update e = false := op_is ho .update
        have t12 : is_pack e = false := op_is ho .pack
        replace hsd : Meets Try.prog 50 [S e] (B true) := hsd
        replace hll : L.length = 1 := Int.ofNat_inj.1 (hll rfl)
        obtain ⟨xs, rfl⟩ := List.length_eq_one_iff.1 hll
        obtain ⟨k, rfl⟩ := List.length_eq_one_iff.1 (Int.ofNat_inj.1 hzl)
        have hs0 : xs.length = 1 := by have := hi; simp [rankB, rank, rk, ix] at this; first | omega | (obtain ⟨h1, h2, h3⟩ := this; subst_vars; simp_all; done) | (obtain ⟨h1, h2⟩ := this; subst_vars; simp_all; done) | (subst_vars; rfl)
        obtain ⟨n, rfl⟩ := List.length_eq_one_iff.1 hs0
        have bn := hz [n] (by simp) n (by simp)
        clear hi hi2 hz hd
        by_cases k0 : k < 0
        · skip
          rw [show dm Op13.drop (kOf Op13.drop [k] num ([[n]] : List (List Int)).length) ([[n]] : List (List Int)).flatten = ([], 2) by show wi k n [W (n - k)] = _; unfold wi; rw [if_pos (Or.inl k0)]]
          simp only [ydm,ydn,ydi,ydV,ydq,yeo,yeg,yep,ycX,ycW,yds,ydg,isCallV,ydy,ydz,ydD,ydl,ydw,ydk,pureOp,apureO,aev,cv,cvc,binK,ydB,yee,lenA,lenK,ydF,yieldA,ydK,ydx,ydQ,ycR,↓reduceIte,ycN,ycO,ycS,ycU,ydb,ydf,ycP,ycQ,ycV,ycT,true_and,reduceCtorEq,Nat.reduceEqDiff,ycY,Int.reduceToNat,ydj,ydt,Ty.td3,Ty.td22,Ty.td35,t0,t1,t2,t3,t4,t5,t6,t7,t8,t9,t10,t11,t12,c00,c01,c02,c03,c0,lists,ints,k0]
          refine call_meets (hsd) (by simp only [aev,cv,cvc,ydG,ycZ,ydh,yde,t0,t1,t2,t3,t4,t5,t6,t7,t8,t9,t10,t11,t12,c00,c01,c02,c03,c0,k0,rd1] <;> rfl) ?_; simp only [ydm,ydn,ydi,ydZ,ydq,yev,ycX,ycW,yds,ydg,ydl,ydw,ydN,ydk,yea,pureOp,apureO,killT,aev,cv,cvc,binK,ydB,ydF,yieldA,guardA_no,yeC,ydx,ydQ,ydH,ydY,ydv,ydr,ydG,yej,yeb,ycZ,ydh,yde,notExit,ydR,ydS,yei,ycR,↓reduceIte,ycN,ycO,ycP,ycQ,ycV,ydd,ycT,ydA,true_and,ne_eq,reduceCtorEq,Nat.reduceEqDiff,ydp,Int.reduceToNat,decide_true,ydt,Ty.td3,Ty.td22,t0,t1,t2,t3,t4,t5,t6,t7,t8,t9,t10,t11,t12,c00,c01,c02,c03,c0,ints,k0,fin2,rd1]
          try simp
        · by_cases k1 : n < k
          · skip
            rw [show dm Op13.drop (kOf Op13.drop [k] num ([[n]] : List (List Int)).length) ([[n]] : List (List Int)).flatten = ([], 2) by show wi k n [W (n - k)] = _; unfold wi; rw [if_pos (Or.inr k1)]]
            simp only [ydm,ydn,ydi,ydV,ydq,yeo,yeg,yep,ycX,ycW,yds,ydg,isCallV,ydy,ydz,ydD,ydl,ydw,ydk,pureOp,apureO,aev,cv,cvc,binK,ydB,yee,lenA,lenK,ydF,yieldA,ydK,ydx,ydQ,ycR,↓reduceIte,ycN,ycO,ycS,ycU,ydb,ydf,ycP,ycQ,ycV,ycT,true_and,reduceCtorEq,Nat.reduceEqDiff,ycY,Int.reduceToNat,ydj,ydt,Ty.td3,Ty.td22,Ty.td35,t0,t1,t2,t3,t4,t5,t6,t7,t8,t9,t10,t11,t12,c00,c01,c02,c03,c0,lists,ints,k0,k1]
            refine call_meets (hsd) (by simp only [aev,cv,cvc,ydG,ycZ,ydh,yde,t0,t1,t2,t3,t4,t5,t6,t7,t8,t9,t10,t11,t12,c00,c01,c02,c03,c0,k0,k1,rd1] <;> rfl) ?_; simp only [ydm,ydn,ydi,ydZ,ydq,yev,ycX,ycW,yds,ydg,ydD,ydl,ydw,ydN,ydk,yea,pureOp,apureO,killT,aev,cv,cvc,binK,ydB,ydF,yieldA,ydK,yeC,yed,ydx,ydQ,yek,ydH,ydY,ydv,ydr,ydG,yej,yeb,ycZ,ydh,yde,notExit,ydR,ydS,yei,ycR,↓reduceIte,ycN,ycO,ycP,ycQ,ycV,ydd,ycT,ydA,true_and,ne_eq,reduceCtorEq,Nat.reduceEqDiff,ydp,Int.reduceToNat,decide_true,decide_false,ydt,Ty.td3,Ty.td22,t0,t1,t2,t3,t4,t5,t6,t7,t8,t9,t10,t11,t12,c00,c01,c02,c03,c0,ints,k0,k1,fin2,rd1]
            try simp
          · skip
            rw [show dm Op13.drop (kOf Op13.drop [k] num ([[n]] : List (List Int)).length) ([[n]] : List (List Int)).flatten = ([n - k], 0) by show wi k n [W (n - k)] = _; unfold wi; rw [if_neg (by omega)]; rw [show W (n - k) = n - k from wrap_in (x := n - k) (by omega) (by omega)]]
            have hs := refSize [n - k] (by simp)
            rw [show fin2 ([n - k], 0) = if (sizeE [n - k]).2 ≠ 0 then ([], (sizeE [n - k]).2) else ([n - k], 0) from rfl]
            generalize sizeE [n - k] = z at *
            obtain ⟨q, z⟩ := z
            simp only [ints,ydb,ydf] at hs
            by_cases z0 : z = 0
            · subst z0
              simp only [ydm,ydn,ydi,ydV,ydq,yeo,yeg,yep,ycX,ycW,yds,ydg,isCallV,ydy,ydz,ydD,ydl,ydw,ydk,pureOp,apureO,aev,cv,cvc,binK,ydB,yee,lenA,lenK,ydF,yieldA,ydK,ydx,ydQ,ycR,↓reduceIte,ycN,ycO,ycS,ycU,ydb,ydf,ycP,ycQ,ycV,ycT,true_and,ne_eq,not_true_eq_false,reduceCtorEq,Nat.reduceEqDiff,ycY,Int.reduceToNat,ydj,ydt,Ty.td3,Ty.td22,Ty.td35,t0,t1,t2,t3,t4,t5,t6,t7,t8,t9,t10,t11,t12,c00,c01,c02,c03,c0,lists,ints,k0,k1,wrap_in (x := n - k) (by omega) (by omega)]
              refine call_meets (hsd) (by simp only [aev,cv,cvc,ydG,ycZ,ydh,yde,t0,t1,t2,t3,t4,t5,t6,t7,t8,t9,t10,t11,t12,c00,c01,c02,c03,c0,k0,k1,wrap_in (x := n - k) (by omega) (by omega)] <;> rfl) ?_; simp only [ydE,ydm,ydn,ydi,ydU,ydq,yew,ycX,ycW,yds,ydg,isCallV,ydy,ydz,ydD,ydl,yex,ydw,ydN,ydk,slot.eq_1,pureOp,apureO,astepO,yet,killT,aev,cv,cvc,binK,ydB,ydF,cellsA,cellOk,setAll,fillA,yieldA,ydK,yeC,yed,ydx,ydM,ydQ,yek,chunk,ydH,yez,yeu,yeq,ydY,ydv,ydr,ycR,↓reduceIte,ycN,ycO,ycS,ycU,ydb,ydf,ydL,ycP,ydI,ycQ,ycV,yda,ydT,ydW,yef,ycT,ydc,ydA,Value.oneCell',true_and,and_self,reduceCtorEq,Nat.reduceMul,Nat.reduceLT,Nat.reduceLeDiff,Nat.reduceEqDiff,Nat.reduceMod,ycY,ydp,Int.reduceToNat,ydO,ydP,decide_false,ydu,ydo,ydt,Ty.td3,Ty.td22,t0,t1,t2,t3,t4,t5,t6,t7,t8,t9,t10,t11,t12,c00,c01,c02,c03,c0,ydC,k0,k1,wrap_in (x := n - k) (by omega) (by omega)]
              repeat refine ⟨by omega, ?_⟩
              refine call_meets (hs) (by simp only [aev,cv,cvc,elemsA,yel,ycZ,ydh,yde,↓reduceIte,ycN,ycS,ycU,ydd,yda,ydc,and_self,ycY,ydu,ydo,rd1] <;> rfl) ?_; simp only [ydE,ydm,ydn,ydi,ydZ,ydq,ycX,ycW,ydg,ydl,ydw,ydN,ydk,yea,pureOp,apureO,killT,aev,cv,cvc,binK,ydB,ydM,elemsA,ydH,yen,yeh,yec,yer,ydv,ydr,ydG,yeb,yel,ycZ,ydh,yde,notExit,ydR,ydS,yei,↓reduceIte,ycN,ycO,ycS,ycU,ycP,ydd,yda,ycT,ydc,ydX,true_and,and_self,reduceCtorEq,Nat.reduceEqDiff,ycY,ydJ,or_false,ydu,ydo,bne_self_eq_false,rd1]
              try simp
            · simp only [ydm,ydn,ydi,ydV,ydq,yeo,yeg,yep,ycX,ycW,yds,ydg,isCallV,ydy,ydz,ydD,ydl,ydw,ydk,pureOp,apureO,aev,cv,cvc,binK,ydB,yee,lenA,lenK,ydF,yieldA,ydK,ydx,ydQ,ycR,↓reduceIte,ycN,ycO,ycS,ycU,ydb,ydf,ycP,ycQ,ycV,ycT,true_and,ne_eq,reduceCtorEq,Nat.reduceEqDiff,ycY,Int.reduceToNat,ydj,ydt,Ty.td3,Ty.td22,Ty.td35,t0,t1,t2,t3,t4,t5,t6,t7,t8,t9,t10,t11,t12,c00,c01,c02,c03,c0,lists,ints,k0,k1,wrap_in (x := n - k) (by omega) (by omega)]
              refine call_meets (hsd) (by simp only [aev,cv,cvc,ydG,ycZ,ydh,yde,t0,t1,t2,t3,t4,t5,t6,t7,t8,t9,t10,t11,t12,c00,c01,c02,c03,c0,k0,k1,wrap_in (x := n - k) (by omega) (by omega)] <;> rfl) ?_; simp only [ydE,ydm,ydn,ydi,ydU,ydq,yew,ycX,ycW,yds,ydg,isCallV,ydy,ydz,ydD,ydl,yex,ydw,ydN,ydk,slot.eq_1,pureOp,apureO,astepO,yet,killT,aev,cv,cvc,binK,ydB,ydF,cellsA,cellOk,setAll,fillA,yieldA,ydK,yeC,yed,ydx,ydM,ydQ,yek,chunk,ydH,yez,yeu,yeq,ydY,ydv,ydr,ycR,↓reduceIte,ycN,ycO,ycS,ycU,ydb,ydf,ydL,ycP,ydI,ycQ,ycV,yda,ydT,ydW,yef,ycT,ydc,ydA,Value.oneCell',true_and,and_self,reduceCtorEq,Nat.reduceMul,Nat.reduceLT,Nat.reduceLeDiff,Nat.reduceEqDiff,Nat.reduceMod,ycY,ydp,Int.reduceToNat,ydO,ydP,decide_false,ydu,ydo,ydt,Ty.td3,Ty.td22,t0,t1,t2,t3,t4,t5,t6,t7,t8,t9,t10,t11,t12,c00,c01,c02,c03,c0,ydC,k0,k1,wrap_in (x := n - k) (by omega) (by omega)]
              repeat refine ⟨by omega, ?_⟩
              refine call_meets (hs) (by simp only [aev,cv,cvc,elemsA,yel,ycZ,ydh,yde,↓reduceIte,ycN,ycS,ycU,ydd,yda,ydc,and_self,ycY,ydu,ydo,show (z != 0) = true by simpa using z0,rd1] <;> rfl) ?_; simp only [ydm,ydn,ydi,ydZ,ydq,yev,ycX,ycW,ydg,ydl,ydw,ydN,ydk,yea,pureOp,apureO,killT,aev,cv,cvc,binK,ydB,ydx,ydH,yen,yeh,yec,yer,ydv,ydr,ydG,yej,yeb,ycZ,ydh,yde,notExit,ydR,ydS,yei,↓reduceIte,ycN,ycO,ycP,ydd,ycT,ydc,ydX,true_and,and_self,Nat.reduceEqDiff,ydJ,or_false,show (z != 0) = true by simpa using z0,rd1]
              try simp [z0]
      case reverse =>
        have t0 : is_iota e = false := op_is ho .iota
        have t1 : is_fill e = false := op_is ho .fill
        have t2 : is_take e = false := op_is ho .take
        have t3 : is_drop e = false := op_is ho .drop
        have t4 : is_reverse e = true := op_is ho .reverse
        have t5 : is_append e = false := op_is ho .append
        have t6 : is_transpose e = false := op_is ho .transpose
        have t7 : is_diagonal e = false := op_is ho .diagonal
        have t8 : is_windows e = false := op_is ho .windows
        have t9 : is_chunk e = false := op_is ho .chunk
        have t10 : is_index e = false := op_is ho .index
        have t11 : is_update e = false := op_is ho .update
        have t12 : is_pack e = false := op_is ho .pack
        replace hsd : Meets Try.prog 50 [S e] (B false) := hsd
        replace hll : L.length = 1 := Int.ofNat_inj.1 (hll rfl)
        obtain ⟨xs, rfl⟩ := List.length_eq_one_iff.1 hll
        obtain rfl := List.eq_nil_of_length_eq_zero (Int.ofNat_inj.1 hzl)
        have hs0 : xs.length = 1 := by have := hi; simp [rankB, rank, rk, ix] at this; first | omega | (obtain ⟨h1, h2, h3⟩ := this; subst_vars; simp_all; done) | (obtain ⟨h1, h2⟩ := this; subst_vars; simp_all; done) | (subst_vars; rfl)
        obtain ⟨n, rfl⟩ := List.length_eq_one_iff.1 hs0
        have bn := hz [n] (by simp) n (by simp)
        clear hi hi2 hz hd
        rw [show dm Op13.reverse (kOf Op13.reverse [] num ([[n]] : List (List Int)).length) ([[n]] : List (List Int)).flatten = ([n], 0) by rfl]
        have hs := refSize [n] (by simp)
        rw [show fin2 ([n], 0) = if (sizeE [n]).2 ≠ 0 then ([], (sizeE [n]).2) else ([n], 0) from rfl]
        generalize sizeE [n] = z at *
        obtain ⟨q, z⟩ := z
        simp only [ints,ydb,ydf] at hs
        by_cases z0 : z = 0
        · subst z0
          simp only [ydm,ydn,ydi,ydV,ydq,yeo,yeg,yep,ycX,ycW,yds,ydg,isCallV,ydy,ydz,ydD,ydl,ydw,ydk,pureOp,apureO,aev,cv,cvc,binK,ydB,yee,lenA,lenK,ydF,yieldA,ydK,ydx,ydQ,ycR,↓reduceIte,ycN,ycO,ycS,ycU,ydb,ydf,ycP,ycQ,ycV,ycT,true_and,ne_eq,not_true_eq_false,reduceCtorEq,Nat.reduceEqDiff,ycY,Int.reduceToNat,ydj,ydt,Ty.td3,Ty.td22,Ty.td35,t0,t1,t2,t3,t4,t5,t6,t7,t8,t9,t10,t11,t12,c00,c01,c02,c03,c0,lists,ints]
          refine call_meets (hsd) (by simp only [aev,cv,cvc,ydG,ycZ,ydh,yde,t0,t1,t2,t3,t4,t5,t6,t7,t8,t9,t10,t11,t12,c00,c01,c02,c03,c0] <;> rfl) ?_; simp only [ydE,ydm,ydn,ydi,ydU,ydq,yew,ycX,ycW,yds,ydg,isCallV,ydy,ydz,ydD,ydl,yex,ydw,ydN,ydk,slot.eq_1,pureOp,apureO,astepO,yet,killT,aev,cv,cvc,binK,ydB,cellsA,cellOk,setAll,fillA,yieldA,yem,yed,ydx,ydM,yek,chunk,ydH,yez,yeu,yeq,ydY,ydv,ydr,ycR,↓reduceIte,ycN,ycO,ycS,ycU,ydb,ydf,ydL,ycP,ydI,ycQ,ycV,yda,ydT,ydW,yef,ycT,ydc,ydA,Value.oneCell',true_and,and_self,reduceCtorEq,Nat.reduceMul,Nat.reduceLT,Nat.reduceLeDiff,Nat.reduceEqDiff,Nat.reduceMod,ycY,ydp,ydO,ydP,ydu,ydo,Ty.td3,Ty.td22,t0,t1,t2,t3,t4,t5,t6,t7,t8,t9,t10,t11,t12,c00,c01,c02,c03,c0,ydC]
          repeat refine ⟨by omega, ?_⟩
          refine call_meets (hs) (by simp only [aev,cv,cvc,elemsA,yel,ycZ,ydh,yde,↓reduceIte,ycN,ycS,ycU,ydd,yda,ydc,and_self,ycY,ydu,ydo,rd1] <;> rfl) ?_; simp only [ydE,ydm,ydn,ydi,ydZ,ydq,ycX,ycW,ydg,ydl,ydw,ydN,ydk,yea,pureOp,apureO,killT,aev,cv,cvc,binK,ydB,ydM,elemsA,ydH,yen,yeh,yec,yer,ydv,ydr,ydG,yeb,yel,ycZ,ydh,yde,notExit,ydR,ydS,yei,↓reduceIte,ycN,ycO,ycS,ycU,ycP,ydd,yda,ycT,ydc,ydX,true_and,and_self,reduceCtorEq,Nat.reduceEqDiff,ycY,ydJ,or_false,ydu,ydo,bne_self_eq_false,rd1]
          try simp
        · simp only [ydm,ydn,ydi,ydV,ydq,yeo,yeg,yep,ycX,ycW,yds,ydg,isCallV,ydy,ydz,ydD,ydl,ydw,ydk,pureOp,apureO,aev,cv,cvc,binK,ydB,yee,lenA,lenK,ydF,yieldA,ydK,ydx,ydQ,ycR,↓reduceIte,ycN,ycO,ycS,ycU,ydb,ydf,ycP,ycQ,ycV,ycT,true_and,ne_eq,reduceCtorEq,Nat.reduceEqDiff,ycY,Int.reduceToNat,ydj,ydt,Ty.td3,Ty.td22,Ty.td35,t0,t1,t2,t3,t4,t5,t6,t7,t8,t9,t10,t11,t12,c00,c01,c02,c03,c0,lists,ints]
          refine call_meets (hsd) (by simp only [aev,cv,cvc,ydG,ycZ,ydh,yde,t0,t1,t2,t3,t4,t5,t6,t7,t8,t9,t10,t11,t12,c00,c01,c02,c03,c0] <;> rfl) ?_; simp only [ydE,ydm,ydn,ydi,ydU,ydq,yew,ycX,ycW,yds,ydg,isCallV,ydy,ydz,ydD,ydl,yex,ydw,ydN,ydk,slot.eq_1,pureOp,apureO,astepO,yet,killT,aev,cv,cvc,binK,ydB,cellsA,cellOk,setAll,fillA,yieldA,yem,yed,ydx,ydM,yek,chunk,ydH,yez,yeu,yeq,ydY,ydv,ydr,ycR,↓reduceIte,ycN,ycO,ycS,ycU,ydb,ydf,ydL,ycP,ydI,ycQ,ycV,yda,ydT,ydW,yef,ycT,ydc,ydA,Value.oneCell',true_and,and_self,reduceCtorEq,Nat.reduceMul,Nat.reduceLT,Nat.reduceLeDiff,Nat.reduceEqDiff,Nat.reduceMod,ycY,ydp,ydO,ydP,ydu,ydo,Ty.td3,Ty.td22,t0,t1,t2,t3,t4,t5,t6,t7,t8,t9,t10,t11,t12,c00,c01,c02,c03,c0,ydC]
          repeat refine ⟨by omega, ?_⟩
          refine call_meets (hs) (by simp only [aev,cv,cvc,elemsA,yel,ycZ,ydh,yde,↓reduceIte,ycN,ycS,ycU,ydd,yda,ydc,and_self,ycY,ydu,ydo,show (z != 0) = true by simpa using z0,rd1] <;> rfl) ?_; simp only [ydm,ydn,ydi,ydZ,ydq,yev,ycX,ycW,ydg,ydl,ydw,ydN,ydk,yea,pureOp,apureO,killT,aev,cv,cvc,binK,ydB,ydx,ydH,yen,yeh,yec,yer,ydv,ydr,ydG,yej,yeb,ycZ,ydh,yde,notExit,ydR,ydS,yei,↓reduceIte,ycN,ycO,ycP,ydd,ycT,ydc,ydX,true_and,and_self,Nat.reduceEqDiff,ydJ,or_false,show (z != 0) = true by simpa using z0,rd1]
          try simp [z0]
      case append =>
        have t0 : is_iota e = false := op_is ho .iota
        have t1 : is_fill e = false := op_is ho .fill
        have t2 : is_take e = false := op_is ho .take
        have t3 : is_drop e = false := op_is ho .drop
        have t4 : is_reverse e = false := op_is ho .reverse
        have t5 : is_append e = true := op_is ho .append
        have t6 : is_transpose e = false := op_is ho .transpose
        have t7 : is_diagonal e = false := op_is ho .diagonal
        have t8 : is_windows e = false := op_is ho .windows
        have t9 : is_chunk e = false := op_is ho .chunk
        have t10 : is_index e = false := op_is ho .index
        have t11 : is_update e = false := op_is ho .update
        have t12 : is_pack e = false := op_is ho .pack
        replace hsd : Meets Try.prog 50 [S e] (B false) := hsd
        replace hll : L.length = 2 := Int.ofNat_inj.1 (hll rfl)
        obtain ⟨xs, ys, rfl⟩ : ∃ a b, L = [a, b] := by match L, hll with | [a, b], _ => exact ⟨a, b, rfl⟩
        obtain rfl := List.eq_nil_of_length_eq_zero (Int.ofNat_inj.1 hzl)
        have hs0 : xs.length = 1 := by have := hi; simp [rankB, rank, rk, ix] at this; first | omega | (obtain ⟨h1, h2, h3⟩ := this; subst_vars; simp_all; done) | (obtain ⟨h1, h2⟩ := this; subst_vars; simp_all; done) | (subst_vars; rfl)
        have hs1 : ys.length = 1 := by have := hi; simp [rankB, rank, rk, ix] at this; first | omega | (obtain ⟨h1, h2, h3⟩ := this; subst_vars; simp_all; done) | (obtain ⟨h1, h2⟩ := this; subst_vars; simp_all; done) | (subst_vars; rfl)
        obtain ⟨n, rfl⟩ := List.length_eq_one_iff.1 hs0
        obtain ⟨m, rfl⟩ := List.length_eq_one_iff.1 hs1
        have bn := hz [n] (by simp) n (by simp)
        have bm := hz [m] (by simp) m (by simp)
        clear hi hi2 hz hd
        rw [show dm Op13.append (kOf Op13.append [] num ([[n], [m]] : List (List Int)).length) ([[n], [m]] : List (List Int)).flatten = ([n + m], 0) by show ([W (n + m)], (0 : Int)) = _; rw [show W (n + m) = n + m from wrap_in (x := n + m) (by omega) (by omega)]]
        have hs := refSize [n + m] (by simp)
        rw [show fin2 ([n + m], 0) = if (sizeE [n + m]).2 ≠ 0 then ([], (sizeE [n + m]).2) else ([n + m], 0) from rfl]
        generalize sizeE [n + m] = z at *
        obtain ⟨q, z⟩ := z
        simp only [ints,ydb,ydf] at hs
        by_cases z0 : z = 0
        · subst z0
          simp only [ydm,ydn,ydi,ydV,ydq,yeo,yeg,yep,ycX,ycW,yds,ydg,isCallV,ydy,ydz,ydD,ydl,ydw,ydk,pureOp,apureO,aev,cv,cvc,binK,ydB,yee,lenA,lenK,ydF,yieldA,ydK,ydx,ydQ,ycR,↓reduceIte,ycN,ycO,ycS,ycU,ydb,ydf,ycP,ycQ,ycV,ycT,true_and,ne_eq,not_true_eq_false,reduceCtorEq,Nat.reduceAdd,Nat.reduceEqDiff,ycY,Int.reduceToNat,ydj,ydt,Ty.td3,Ty.td22,Ty.td35,t0,t1,t2,t3,t4,t5,t6,t7,t8,t9,t10,t11,t12,c00,c01,c02,c03,c0,lists,ints,wrap_in (x := n + m) (by omega) (by omega)]
          refine call_meets (hsd) (by simp only [aev,cv,cvc,ydG,ycZ,ydh,yde,t0,t1,t2,t3,t4,t5,t6,t7,t8,t9,t10,t11,t12,c00,c01,c02,c03,c0,wrap_in (x := n + m) (by omega) (by omega)] <;> rfl) ?_; simp only [ydE,ydm,ydn,ydi,ydU,ydq,yew,ycX,ycW,yds,ydg,isCallV,ydy,ydz,ydD,ydl,yex,ydw,ydN,ydk,slot.eq_1,pureOp,apureO,astepO,yet,killT,aev,cv,cvc,binK,ydB,ydF,cellsA,cellOk,setAll,fillA,yieldA,yem,yed,ydx,ydM,yek,chunk,ydH,yez,yeu,yeq,ydY,ydv,ydr,ycR,↓reduceIte,ycN,ycO,ycS,ycU,ydb,ydf,ydL,ycP,ydI,ycQ,ycV,yda,ydT,ydW,yef,ycT,ydc,ydA,Value.oneCell',true_and,and_self,reduceCtorEq,Nat.reduceMul,Nat.reduceLT,Nat.reduceLeDiff,Nat.reduceEqDiff,Nat.reduceMod,ycY,ydp,Int.reduceToNat,ydO,ydP,ydu,ydo,ydt,Ty.td3,Ty.td22,Ty.td35,t0,t1,t2,t3,t4,t5,t6,t7,t8,t9,t10,t11,t12,c00,c01,c02,c03,c0,ydC,wrap_in (x := n + m) (by omega) (by omega)]
          repeat refine ⟨by omega, ?_⟩
          refine call_meets (hs) (by simp only [aev,cv,cvc,elemsA,yel,ycZ,ydh,yde,↓reduceIte,ycN,ycS,ycU,ydd,yda,ydc,and_self,ycY,ydu,ydo,rd1] <;> rfl) ?_; simp only [ydE,ydm,ydn,ydi,ydZ,ydq,ycX,ycW,ydg,ydl,ydw,ydN,ydk,yea,pureOp,apureO,killT,aev,cv,cvc,binK,ydB,ydM,elemsA,ydH,yen,yeh,yec,yer,ydv,ydr,ydG,yeb,yel,ycZ,ydh,yde,notExit,ydR,ydS,yei,↓reduceIte,ycN,ycO,ycS,ycU,ycP,ydd,yda,ycT,ydc,ydX,true_and,and_self,reduceCtorEq,Nat.reduceEqDiff,ycY,ydJ,or_false,ydu,ydo,bne_self_eq_false,rd1]
          try simp
        · simp only [ydm,ydn,ydi,ydV,ydq,yeo,yeg,yep,ycX,ycW,yds,ydg,isCallV,ydy,ydz,ydD,ydl,ydw,ydk,pureOp,apureO,aev,cv,cvc,binK,ydB,yee,lenA,lenK,ydF,yieldA,ydK,ydx,ydQ,ycR,↓reduceIte,ycN,ycO,ycS,ycU,ydb,ydf,ycP,ycQ,ycV,ycT,true_and,ne_eq,reduceCtorEq,Nat.reduceAdd,Nat.reduceEqDiff,ycY,Int.reduceToNat,ydj,ydt,Ty.td3,Ty.td22,Ty.td35,t0,t1,t2,t3,t4,t5,t6,t7,t8,t9,t10,t11,t12,c00,c01,c02,c03,c0,lists,ints,wrap_in (x := n + m) (by omega) (by omega)]
          refine call_meets (hsd) (by simp only [aev,cv,cvc,ydG,ycZ,ydh,yde,t0,t1,t2,t3,t4,t5,t6,t7,t8,t9,t10,t11,t12,c00,c01,c02,c03,c0,wrap_in (x := n + m) (by omega) (by omega)] <;> rfl) ?_; simp only [ydE,ydm,ydn,ydi,ydU,ydq,yew,ycX,ycW,yds,ydg,isCallV,ydy,ydz,ydD,ydl,yex,ydw,ydN,ydk,slot.eq_1,pureOp,apureO,astepO,yet,killT,aev,cv,cvc,binK,ydB,ydF,cellsA,cellOk,setAll,fillA,yieldA,yem,yed,ydx,ydM,yek,chunk,ydH,yez,yeu,yeq,ydY,ydv,ydr,ycR,↓reduceIte,ycN,ycO,ycS,ycU,ydb,ydf,ydL,ycP,ydI,ycQ,ycV,yda,ydT,ydW,yef,ycT,ydc,ydA,Value.oneCell',true_and,and_self,reduceCtorEq,Nat.reduceMul,Nat.reduceLT,Nat.reduceLeDiff,Nat.reduceEqDiff,Nat.reduceMod,ycY,ydp,Int.reduceToNat,ydO,ydP,ydu,ydo,ydt,Ty.td3,Ty.td22,Ty.td35,t0,t1,t2,t3,t4,t5,t6,t7,t8,t9,t10,t11,t12,c00,c01,c02,c03,c0,ydC,wrap_in (x := n + m) (by omega) (by omega)]
          repeat refine ⟨by omega, ?_⟩
          refine call_meets (hs) (by simp only [aev,cv,cvc,elemsA,yel,ycZ,ydh,yde,↓reduceIte,ycN,ycS,ycU,ydd,yda,ydc,and_self,ycY,ydu,ydo,show (z != 0) = true by simpa using z0,rd1] <;> rfl) ?_; simp only [ydm,ydn,ydi,ydZ,ydq,yev,ycX,ycW,ydg,ydl,ydw,ydN,ydk,yea,pureOp,apureO,killT,aev,cv,cvc,binK,ydB,ydx,ydH,yen,yeh,yec,yer,ydv,ydr,ydG,yej,yeb,ycZ,ydh,yde,notExit,ydR,ydS,yei,↓reduceIte,ycN,ycO,ycP,ydd,ycT,ydc,ydX,true_and,and_self,Nat.reduceEqDiff,ydJ,or_false,show (z != 0) = true by simpa using z0,rd1]
          try simp [z0]
      case transpose =>
        have t0 : is_iota e = false := op_is ho .iota
        have t1 : is_fill e = false := op_is ho .fill
        have t2 : is_take e = false := op_is ho .take
        have t3 : is_drop e = false := op_is ho .drop
        have t4 : is_reverse e = false := op_is ho .reverse
        have t5 : is_append e = false := op_is ho .append
        have t6 : is_transpose e = true := op_is ho .transpose
        have t7 : is_diagonal e = false := op_is ho .diagonal
        have t8 : is_windows e = false := op_is ho .windows
        have t9 : is_chunk e = false := op_is ho .chunk
        have t10 : is_index e = false := op_is ho .index
        have t11 : is_update e = false := op_is ho .update
        have t12 : is_pack e = false := op_is ho .pack
        replace hsd : Meets Try.prog 50 [S e] (B false) := hsd
        replace hll : L.length = 1 := Int.ofNat_inj.1 (hll rfl)
        obtain ⟨xs, rfl⟩ := List.length_eq_one_iff.1 hll
        obtain rfl := List.eq_nil_of_length_eq_zero (Int.ofNat_inj.1 hzl)
        have hs0 : xs.length = 2 := by have := hi; simp [rankB, rank, rk, ix] at this; first | omega | (obtain ⟨h1, h2, h3⟩ := this; subst_vars; simp_all; done) | (obtain ⟨h1, h2⟩ := this; subst_vars; simp_all; done) | (subst_vars; rfl)
        obtain ⟨n, m, rfl⟩ : ∃ a b, xs = [a, b] := by match xs, hs0 with | [a, b], _ => exact ⟨a, b, rfl⟩
        have bn := hz [n, m] (by simp) n (by simp)
        have bm := hz [n, m] (by simp) m (by simp)
        clear hi hi2 hz hd
        rw [show dm Op13.transpose (kOf Op13.transpose [] num ([[n, m]] : List (List Int)).length) ([[n, m]] : List (List Int)).flatten = ([m, n], 0) by rfl]
        have hs := refSize [m, n] (by simp)
        rw [show fin2 ([m, n], 0) = if (sizeE [m, n]).2 ≠ 0 then ([], (sizeE [m, n]).2) else ([m, n], 0) from rfl]
        generalize sizeE [m, n] = z at *
        obtain ⟨q, z⟩ := z
        simp only [ints,ydb,ydf] at hs
        by_cases z0 : z = 0
        · subst z0
          simp only [ydm,ydn,ydi,ydV,ydq,yeo,yeg,yep,ycX,ycW,yds,ydg,isCallV,ydy,ydz,ydD,ydl,ydw,ydk,pureOp,apureO,aev,cv,cvc,binK,ydB,yee,lenA,lenK,ydF,yieldA,ydK,ydx,ydQ,ycR,↓reduceIte,ycN,ycO,ycS,ycU,ydb,ydf,ycP,ycQ,ycV,ycT,true_and,ne_eq,not_true_eq_false,reduceCtorEq,Nat.reduceAdd,Nat.reduceEqDiff,ycY,Int.reduceToNat,ydj,ydt,Ty.td3,Ty.td22,Ty.td35,t0,t1,t2,t3,t4,t5,t6,t7,t8,t9,t10,t11,t12,c00,c01,c02,c03,c0,lists,ints]
          refine call_meets (hsd) (by simp only [aev,cv,cvc,ydG,ycZ,ydh,yde,t0,t1,t2,t3,t4,t5,t6,t7,t8,t9,t10,t11,t12,c00,c01,c02,c03,c0] <;> rfl) ?_; simp only [ydE,ydm,ydn,ydi,ydU,ydq,yew,ycX,ycW,yds,ydg,isCallV,ydy,ydz,ydD,ydl,yex,ydw,ydN,ydk,slot.eq_1,pureOp,apureO,astepO,yet,killT,aev,cv,cvc,binK,ydB,ydF,cellsA,cellOk,setAll,fillA,yieldA,yem,yed,ydx,ydM,yek,chunk,ydH,yez,yeu,yeq,ydY,ydv,ydr,ycR,↓reduceIte,ycN,ycO,ycS,ycU,ydb,ydf,yeE,ydL,ycP,ydI,yeD,ycQ,ycV,Option.getD_some,yda,yeF,yeB,ydT,ydW,yef,yeA,ycT,ydc,ydA,Value.oneCell',true_and,and_true,and_self,reduceCtorEq,Nat.reduceAdd,Nat.reduceMul,Nat.reduceLT,Nat.reduceLeDiff,Nat.reduceEqDiff,Nat.reduceMod,ycY,ydp,Int.reduceToNat,ydO,ydP,ydu,ydo,ydt,Ty.td3,Ty.td22,Ty.td35,t0,t1,t2,t3,t4,t5,t6,t7,t8,t9,t10,t11,t12,c00,c01,c02,c03,c0,ydC]
          repeat refine ⟨by omega, ?_⟩
          refine call_meets (hs) (by simp only [aev,cv,cvc,elemsA,yel,ycZ,ydh,yde,↓reduceIte,ycN,ycS,ycU,ydd,yda,ydc,and_self,Nat.reduceAdd,ycY,ydu,ydo,rd1] <;> rfl) ?_; simp only [ydE,ydm,ydn,ydi,ydZ,ydq,ycX,ycW,ydg,ydl,ydw,ydN,ydk,yea,pureOp,apureO,killT,aev,cv,cvc,binK,ydB,ydM,elemsA,ydH,yen,yeh,yec,yer,ydv,ydr,ydG,yeb,yel,ycZ,ydh,yde,notExit,ydR,ydS,yei,↓reduceIte,ycN,ycO,ycS,ycU,ycP,ydd,yda,ycT,ydc,ydX,true_and,and_self,reduceCtorEq,Nat.reduceAdd,Nat.reduceEqDiff,ycY,ydJ,or_false,ydu,ydo,bne_self_eq_false,rd1]
          try simp
        · simp only [ydm,ydn,ydi,ydV,ydq,yeo,yeg,yep,ycX,ycW,yds,ydg,isCallV,ydy,ydz,ydD,ydl,ydw,ydk,pureOp,apureO,aev,cv,cvc,binK,ydB,yee,lenA,lenK,ydF,yieldA,ydK,ydx,ydQ,ycR,↓reduceIte,ycN,ycO,ycS,ycU,ydb,ydf,ycP,ycQ,ycV,ycT,true_and,ne_eq,reduceCtorEq,Nat.reduceAdd,Nat.reduceEqDiff,ycY,Int.reduceToNat,ydj,ydt,Ty.td3,Ty.td22,Ty.td35,t0,t1,t2,t3,t4,t5,t6,t7,t8,t9,t10,t11,t12,c00,c01,c02,c03,c0,lists,ints]
          refine call_meets (hsd) (by simp only [aev,cv,cvc,ydG,ycZ,ydh,yde,t0,t1,t2,t3,t4,t5,t6,t7,t8,t9,t10,t11,t12,c00,c01,c02,c03,c0] <;> rfl) ?_; simp only [ydE,ydm,ydn,ydi,ydU,ydq,yew,ycX,ycW,yds,ydg,isCallV,ydy,ydz,ydD,ydl,yex,ydw,ydN,ydk,slot.eq_1,pureOp,apureO,astepO,yet,killT,aev,cv,cvc,binK,ydB,ydF,cellsA,cellOk,setAll,fillA,yieldA,yem,yed,ydx,ydM,yek,chunk,ydH,yez,yeu,yeq,ydY,ydv,ydr,ycR,↓reduceIte,ycN,ycO,ycS,ycU,ydb,ydf,yeE,ydL,ycP,ydI,yeD,ycQ,ycV,Option.getD_some,yda,yeF,yeB,ydT,ydW,yef,yeA,ycT,ydc,ydA,Value.oneCell',true_and,and_true,and_self,reduceCtorEq,Nat.reduceAdd,Nat.reduceMul,Nat.reduceLT,Nat.reduceLeDiff,Nat.reduceEqDiff,Nat.reduceMod,ycY,ydp,Int.reduceToNat,ydO,ydP,ydu,ydo,ydt,Ty.td3,Ty.td22,Ty.td35,t0,t1,t2,t3,t4,t5,t6,t7,t8,t9,t10,t11,t12,c00,c01,c02,c03,c0,ydC]
          repeat refine ⟨by omega, ?_⟩
          refine call_meets (hs) (by simp only [aev,cv,cvc,elemsA,yel,ycZ,ydh,yde,↓reduceIte,ycN,ycS,ycU,ydd,yda,ydc,and_self,Nat.reduceAdd,ycY,ydu,ydo,show (z != 0) = true by simpa using z0,rd1] <;> rfl) ?_; simp only [ydm,ydn,ydi,ydZ,ydq,yev,ycX,ycW,ydg,ydl,ydw,ydN,ydk,yea,pureOp,apureO,killT,aev,cv,cvc,binK,ydB,ydx,ydH,yen,yeh,yec,yer,ydv,ydr,ydG,yej,yeb,ycZ,ydh,yde,notExit,ydR,ydS,yei,↓reduceIte,ycN,ycO,ycP,ydd,ycT,ydc,ydX,true_and,and_self,Nat.reduceEqDiff,ydJ,or_false,show (z != 0) = true by simpa using z0,rd1]
          try simp [z0]
      case diagonal =>
        have t0 : is_iota e = false := op_is ho .iota
        have t1 : is_fill e = false := op_is ho .fill
        have t2 : is_take e = false := op_is ho .take
        have t3 : is_drop e = false := op_is ho .drop
        have t4 : is_reverse e = false := op_is ho .reverse
        have t5 : is_append e = false := op_is ho .append
        have t6 : is_transpose e = false := op_is ho .transpose
        have t7 : is_diagonal e = true := op_is ho .diagonal
        have t8 : is_windows e = false := op_is ho .windows
        have t9 : is_chunk e = false := op_is ho .chunk
        have t10 : is_index e = false := op_is ho .index
        have t11 : is_update e = false := op_is ho .update
        have t12 : is_pack e = false := op_is ho .pack
        replace hsd : Meets Try.prog 50 [S e] (B false) := hsd
        replace hll : L.length = 1 := Int.ofNat_inj.1 (hll rfl)
        obtain ⟨xs, rfl⟩ := List.length_eq_one_iff.1 hll
        obtain rfl := List.eq_nil_of_length_eq_zero (Int.ofNat_inj.1 hzl)
        have hs0 : xs.length = 2 := by have := hi; simp [rankB, rank, rk, ix] at this; first | omega | (obtain ⟨h1, h2, h3⟩ := this; subst_vars; simp_all; done) | (obtain ⟨h1, h2⟩ := this; subst_vars; simp_all; done) | (subst_vars; rfl)
        obtain ⟨n, m, rfl⟩ : ∃ a b, xs = [a, b] := by match xs, hs0 with | [a, b], _ => exact ⟨a, b, rfl⟩
        have bn := hz [n, m] (by simp) n (by simp)
        have bm := hz [n, m] (by simp) m (by simp)
        clear hi hi2 hz hd
        by_cases h : n = m
        · have hmn : (m != n) = false := by simp [h]
          rw [show dm Op13.diagonal (kOf Op13.diagonal [] num ([[n, m]] : List (List Int)).length) ([[n, m]] : List (List Int)).flatten = ([n], 0) by show (if n ≠ m then ([], (14 : Int)) else ([n], 0)) = _; rw [if_neg (by simp [h])]]
          have hs := refSize [n] (by simp)
          rw [show fin2 ([n], 0) = if (sizeE [n]).2 ≠ 0 then ([], (sizeE [n]).2) else ([n], 0) from rfl]
          generalize sizeE [n] = z at *
          obtain ⟨q, z⟩ := z
          simp only [ints,ydb,ydf] at hs
          by_cases z0 : z = 0
          · subst z0
            simp only [ydm,ydn,ydi,ydV,ydq,yeo,yeg,yep,ycX,ycW,yds,ydg,isCallV,ydy,ydz,ydD,ydl,ydw,ydk,pureOp,apureO,aev,cv,cvc,binK,ydB,yee,lenA,lenK,ydF,yieldA,ydK,ydx,ydQ,ycR,↓reduceIte,ycN,ycO,ycS,ycU,ydb,ydf,ycP,ycQ,ycV,ycT,true_and,ne_eq,not_true_eq_false,reduceCtorEq,Nat.reduceAdd,Nat.reduceEqDiff,ycY,Int.reduceToNat,ydj,ydt,Ty.td3,Ty.td22,Ty.td35,t0,t1,t2,t3,t4,t5,t6,t7,t8,t9,t10,t11,t12,c00,c01,c02,c03,c0,lists,ints,hmn]
            refine call_meets (hsd) (by simp only [aev,cv,cvc,ydG,ycZ,ydh,yde,t0,t1,t2,t3,t4,t5,t6,t7,t8,t9,t10,t11,t12,c00,c01,c02,c03,c0,hmn] <;> rfl) ?_; simp only [ydE,ydm,ydn,ydi,ydU,ydq,yew,ycX,ycW,yds,ydg,isCallV,ydy,ydz,ydD,ydl,yex,ydw,ydN,ydk,slot.eq_1,pureOp,apureO,astepO,yet,killT,aev,cv,cvc,binK,ydB,ydF,cellsA,cellOk,setAll,fillA,yieldA,yem,yed,ydx,ydM,yek,chunk,ydH,yez,yeu,yeq,ydY,ydv,ydr,ycR,↓reduceIte,ycN,ycO,ycS,ycU,ydb,ydf,ydL,ycP,ydI,ycQ,ycV,yda,ydT,ydW,yef,ycT,ydc,ydA,Value.oneCell',true_and,and_self,reduceCtorEq,Nat.reduceMul,Nat.reduceLT,Nat.reduceLeDiff,Nat.reduceEqDiff,Nat.reduceMod,ycY,ydp,Int.reduceToNat,ydO,ydP,ydu,ydo,ydt,Ty.td3,Ty.td22,Ty.td35,t0,t1,t2,t3,t4,t5,t6,t7,t8,t9,t10,t11,t12,c00,c01,c02,c03,c0,ydC,hmn]
            repeat refine ⟨by omega, ?_⟩
            refine call_meets (hs) (by simp only [aev,cv,cvc,elemsA,yel,ycZ,ydh,yde,↓reduceIte,ycN,ycS,ycU,ydd,yda,ydc,and_self,ycY,ydu,ydo,rd1] <;> rfl) ?_; simp only [ydE,ydm,ydn,ydi,ydZ,ydq,ycX,ycW,ydg,ydl,ydw,ydN,ydk,yea,pureOp,apureO,killT,aev,cv,cvc,binK,ydB,ydM,elemsA,ydH,yen,yeh,yec,yer,ydv,ydr,ydG,yeb,yel,ycZ,ydh,yde,notExit,ydR,ydS,yei,↓reduceIte,ycN,ycO,ycS,ycU,ycP,ydd,yda,ycT,ydc,ydX,true_and,and_self,reduceCtorEq,Nat.reduceEqDiff,ycY,ydJ,or_false,ydu,ydo,bne_self_eq_false,rd1]
            try simp
          · simp only [ydm,ydn,ydi,ydV,ydq,yeo,yeg,yep,ycX,ycW,yds,ydg,isCallV,ydy,ydz,ydD,ydl,ydw,ydk,pureOp,apureO,aev,cv,cvc,binK,ydB,yee,lenA,lenK,ydF,yieldA,ydK,ydx,ydQ,ycR,↓reduceIte,ycN,ycO,ycS,ycU,ydb,ydf,ycP,ycQ,ycV,ycT,true_and,ne_eq,reduceCtorEq,Nat.reduceAdd,Nat.reduceEqDiff,ycY,Int.reduceToNat,ydj,ydt,Ty.td3,Ty.td22,Ty.td35,t0,t1,t2,t3,t4,t5,t6,t7,t8,t9,t10,t11,t12,c00,c01,c02,c03,c0,lists,ints,hmn]
            refine call_meets (hsd) (by simp only [aev,cv,cvc,ydG,ycZ,ydh,yde,t0,t1,t2,t3,t4,t5,t6,t7,t8,t9,t10,t11,t12,c00,c01,c02,c03,c0,hmn] <;> rfl) ?_; simp only [ydE,ydm,ydn,ydi,ydU,ydq,yew,ycX,ycW,yds,ydg,isCallV,ydy,ydz,ydD,ydl,yex,ydw,ydN,ydk,slot.eq_1,pureOp,apureO,astepO,yet,killT,aev,cv,cvc,binK,ydB,ydF,cellsA,cellOk,setAll,fillA,yieldA,yem,yed,ydx,ydM,yek,chunk,ydH,yez,yeu,yeq,ydY,ydv,ydr,ycR,↓reduceIte,ycN,ycO,ycS,ycU,ydb,ydf,ydL,ycP,ydI,ycQ,ycV,yda,ydT,ydW,yef,ycT,ydc,ydA,Value.oneCell',true_and,and_self,reduceCtorEq,Nat.reduceMul,Nat.reduceLT,Nat.reduceLeDiff,Nat.reduceEqDiff,Nat.reduceMod,ycY,ydp,Int.reduceToNat,ydO,ydP,ydu,ydo,ydt,Ty.td3,Ty.td22,Ty.td35,t0,t1,t2,t3,t4,t5,t6,t7,t8,t9,t10,t11,t12,c00,c01,c02,c03,c0,ydC,hmn]
            repeat refine ⟨by omega, ?_⟩
            refine call_meets (hs) (by simp only [aev,cv,cvc,elemsA,yel,ycZ,ydh,yde,↓reduceIte,ycN,ycS,ycU,ydd,yda,ydc,and_self,ycY,ydu,ydo,show (z != 0) = true by simpa using z0,rd1] <;> rfl) ?_; simp only [ydm,ydn,ydi,ydZ,ydq,yev,ycX,ycW,ydg,ydl,ydw,ydN,ydk,yea,pureOp,apureO,killT,aev,cv,cvc,binK,ydB,ydx,ydH,yen,yeh,yec,yer,ydv,ydr,ydG,yej,yeb,ycZ,ydh,yde,notExit,ydR,ydS,yei,↓reduceIte,ycN,ycO,ycP,ydd,ycT,ydc,ydX,true_and,and_self,Nat.reduceEqDiff,ydJ,or_false,show (z != 0) = true by simpa using z0,rd1]
            try simp [z0]
        · skip
          rw [show dm Op13.diagonal (kOf Op13.diagonal [] num ([[n, m]] : List (List Int)).length) ([[n, m]] : List (List Int)).flatten = ([], 14) by show (if n ≠ m then ([], (14 : Int)) else ([n], 0)) = _; rw [if_pos h]]
          simp only [ydm,ydn,ydi,ydV,ydq,yeo,yeg,yep,ycX,ycW,yds,ydg,isCallV,ydy,ydz,ydD,ydl,ydw,ydk,pureOp,apureO,aev,cv,cvc,binK,ydB,yee,lenA,lenK,ydF,yieldA,ydK,ydx,ydQ,ycR,↓reduceIte,ycN,ycO,ycS,ycU,ydb,ydf,ycP,ycQ,ycV,ycT,true_and,reduceCtorEq,Nat.reduceAdd,Nat.reduceEqDiff,ycY,Int.reduceToNat,ydj,ydt,Ty.td3,Ty.td22,Ty.td35,t0,t1,t2,t3,t4,t5,t6,t7,t8,t9,t10,t11,t12,c00,c01,c02,c03,c0,lists,ints,show (m != n) = true by simpa using fun g : m = n => h g.symm]
          refine call_meets (hsd) (by simp only [aev,cv,cvc,ydG,ycZ,ydh,yde,t0,t1,t2,t3,t4,t5,t6,t7,t8,t9,t10,t11,t12,c00,c01,c02,c03,c0,show (m != n) = true by simpa using fun g : m = n => h g.symm,rd1] <;> rfl) ?_; simp only [ydE,ydm,ydn,ydi,ydU,ydZ,ydq,yev,blkQ_r,ycX,ycW,yds,ydg,ydD,ydl,ydw,ydN,ydk,yea,pureOp,apureO,killT,aev,cv,cvc,binK,ydB,ydF,yieldA,yem,yed,ydx,ydM,yek,ydH,ydY,ydv,ydr,ydG,yej,yeb,ycZ,ydh,yde,notExit,ydR,ydS,yei,ycR,↓reduceIte,ycN,ycO,ycP,ycQ,ycV,ydd,ycT,ydA,true_and,ne_eq,reduceCtorEq,Nat.reduceEqDiff,ydp,Int.reduceToNat,ydt,Ty.td3,Ty.td22,Ty.td35,t0,t1,t2,t3,t4,t5,t6,t7,t8,t9,t10,t11,t12,c00,c01,c02,c03,c0,ints,show (m != n) = true by simpa using fun g : m = n => h g.symm,fin2,rd1]
          try simp
      case windows =>
        have t0 : is_iota e = false := op_is ho .iota
        have t1 : is_fill e = false := op_is ho .fill
        have t2 : is_take e = false := op_is ho .take
        have t3 : is_drop e = false := op_is ho .drop
        have t4 : is_reverse e = false := op_is ho .reverse
        have t5 : is_append e = false := op_is ho .append
        have t6 : is_transpose e = false := op_is ho .transpose
        have t7 : is_diagonal e = false := op_is ho .diagonal
        have t8 : is_windows e = true := op_is ho .windows
        have t9 : is_chunk e = false := op_is ho .chunk
        have t10 : is_index e = false := op_is ho .index
        have t11 : is_update e = false := op_is ho .update
        have t12 : is_pack e = false := op_is ho .pack
        replace hsd : Meets Try.prog 50 [S e] (B true) := hsd
        replace hll : L.length = 1 := Int.ofNat_inj.1 (hll rfl)
        obtain ⟨xs, rfl⟩ := List.length_eq_one_iff.1 hll
        obtain ⟨k, rfl⟩ := List.length_eq_one_iff.1 (Int.ofNat_inj.1 hzl)
        have hs0 : xs.length = 1 := by have := hi; simp [rankB, rank, rk, ix] at this; first | omega | (obtain ⟨h1, h2, h3⟩ := this; subst_vars; simp_all; done) | (obtain ⟨h1, h2⟩ := this; subst_vars; simp_all; done) | (subst_vars; rfl)
        obtain ⟨n, rfl⟩ := List.length_eq_one_iff.1 hs0
        have bn := hz [n] (by simp) n (by simp)
        clear hi hi2 hz hd
        by_cases k0 : k < 0
        · skip
          rw [show dm Op13.windows (kOf Op13.windows [k] num ([[n]] : List (List Int)).length) ([[n]] : List (List Int)).flatten = ([], 2) by show wi k n [W (W (n - k) + 1), k] = _; unfold wi; rw [if_pos (Or.inl k0)]]
          simp only [ydm,ydn,ydi,ydV,ydq,yeo,yeg,yep,ycX,ycW,yds,ydg,isCallV,ydy,ydz,ydD,ydl,ydw,ydk,pureOp,apureO,aev,cv,cvc,binK,ydB,yee,lenA,lenK,ydF,yieldA,ydK,ydx,ydQ,ycR,↓reduceIte,ycN,ycO,ycS,ycU,ydb,ydf,ycP,ycQ,ycV,ycT,true_and,reduceCtorEq,Nat.reduceEqDiff,ycY,Int.reduceToNat,ydj,ydt,Ty.td3,Ty.td22,Ty.td35,t0,t1,t2,t3,t4,t5,t6,t7,t8,t9,t10,t11,t12,c00,c01,c02,c03,c0,lists,ints,k0]
          refine call_meets (hsd) (by simp only [aev,cv,cvc,ydG,ycZ,ydh,yde,t0,t1,t2,t3,t4,t5,t6,t7,t8,t9,t10,t11,t12,c00,c01,c02,c03,c0,k0,rd1] <;> rfl) ?_; simp only [ydm,ydn,ydi,ydZ,ydq,yev,ycX,ycW,yds,ydg,ydl,ydw,ydN,ydk,yea,pureOp,apureO,killT,aev,cv,cvc,binK,ydB,ydF,yieldA,guardA_no,yeC,ydx,ydQ,ydH,ydY,ydv,ydr,ydG,yej,yeb,ycZ,ydh,yde,notExit,ydR,ydS,yei,ycR,↓reduceIte,ycN,ycO,ycP,ycQ,ycV,ydd,ycT,ydA,true_and,ne_eq,reduceCtorEq,Nat.reduceEqDiff,ydp,Int.reduceToNat,decide_true,ydt,Ty.td3,Ty.td22,t0,t1,t2,t3,t4,t5,t6,t7,t8,t9,t10,t11,t12,c00,c01,c02,c03,c0,ints,k0,fin2,rd1]
          try simp
        · by_cases k1 : n < k
          · skip
            rw [show dm Op13.windows (kOf Op13.windows [k] num ([[n]] : List (List Int)).length) ([[n]] : List (List Int)).flatten = ([], 2) by show wi k n [W (W (n - k) + 1), k] = _; unfold wi; rw [if_pos (Or.inr k1)]]
            simp only [ydm,ydn,ydi,ydV,ydq,yeo,yeg,yep,ycX,ycW,yds,ydg,isCallV,ydy,ydz,ydD,ydl,ydw,ydk,pureOp,apureO,aev,cv,cvc,binK,ydB,yee,lenA,lenK,ydF,yieldA,ydK,ydx,ydQ,ycR,↓reduceIte,ycN,ycO,ycS,ycU,ydb,ydf,ycP,ycQ,ycV,ycT,true_and,reduceCtorEq,Nat.reduceEqDiff,ycY,Int.reduceToNat,ydj,ydt,Ty.td3,Ty.td22,Ty.td35,t0,t1,t2,t3,t4,t5,t6,t7,t8,t9,t10,t11,t12,c00,c01,c02,c03,c0,lists,ints,k0,k1]
            refine call_meets (hsd) (by simp only [aev,cv,cvc,ydG,ycZ,ydh,yde,t0,t1,t2,t3,t4,t5,t6,t7,t8,t9,t10,t11,t12,c00,c01,c02,c03,c0,k0,k1,rd1] <;> rfl) ?_; simp only [ydm,ydn,ydi,ydZ,ydq,yev,ycX,ycW,yds,ydg,ydD,ydl,ydw,ydN,ydk,yea,pureOp,apureO,killT,aev,cv,cvc,binK,ydB,ydF,yieldA,ydK,yed,ydx,ydQ,yek,ydH,ydY,ydv,ydr,ydG,yej,yeb,ycZ,ydh,yde,notExit,ydR,ydS,yei,ycR,↓reduceIte,ycN,ycO,ycP,ycQ,ycV,ydd,ycT,ydA,true_and,ne_eq,reduceCtorEq,Nat.reduceEqDiff,ydp,Int.reduceToNat,decide_true,decide_false,ydt,Ty.td3,Ty.td22,t0,t1,t2,t3,t4,t5,t6,t7,t8,t9,t10,t11,t12,c00,c01,c02,c03,c0,ints,k0,k1,fin2,rd1]
            try simp
          · skip
            rw [show dm Op13.windows (kOf Op13.windows [k] num ([[n]] : List (List Int)).length) ([[n]] : List (List Int)).flatten = ([n - k + 1, k], 0) by show wi k n [W (W (n - k) + 1), k] = _; unfold wi; rw [if_neg (by omega)]; rw [show W (n - k) = n - k from wrap_in (x := n - k) (by omega) (by omega), show W (n - k + 1) = n - k + 1 from wrap_in (x := n - k + 1) (by omega) (by omega)]]
            have hs := refSize [n - k + 1, k] (by simp)
            rw [show fin2 ([n - k + 1, k], 0) = if (sizeE [n - k + 1, k]).2 ≠ 0 then ([], (sizeE [n - k + 1, k]).2) else ([n - k + 1, k], 0) from rfl]
            generalize sizeE [n - k + 1, k] = z at *
            obtain ⟨q, z⟩ := z
            simp only [ints,ydb,ydf] at hs
            by_cases z0 : z = 0
            · subst z0
              simp only [ydm,ydn,ydi,ydV,ydq,yeo,yeg,yep,ycX,ycW,yds,ydg,isCallV,ydy,ydz,ydD,ydl,ydw,ydk,pureOp,apureO,aev,cv,cvc,binK,ydB,yee,lenA,lenK,ydF,yieldA,ydK,ydx,ydQ,ycR,↓reduceIte,ycN,ycO,ycS,ycU,ydb,ydf,ycP,ycQ,ycV,ycT,true_and,ne_eq,not_true_eq_false,reduceCtorEq,Nat.reduceEqDiff,ycY,Int.reduceToNat,ydj,ydt,Ty.td3,Ty.td22,Ty.td35,t0,t1,t2,t3,t4,t5,t6,t7,t8,t9,t10,t11,t12,c00,c01,c02,c03,c0,lists,ints,k0,k1,wrap_in (x := n - k) (by omega) (by omega),wrap_in (x := n - k + 1) (by omega) (by omega)]
              refine call_meets (hsd) (by simp only [aev,cv,cvc,ydG,ycZ,ydh,yde,t0,t1,t2,t3,t4,t5,t6,t7,t8,t9,t10,t11,t12,c00,c01,c02,c03,c0,k0,k1,wrap_in (x := n - k) (by omega) (by omega),wrap_in (x := n - k + 1) (by omega) (by omega)] <;> rfl) ?_; simp only [ydE,ydm,ydn,ydi,ydU,ydq,yew,ycX,ycW,yds,ydg,isCallV,ydy,ydz,ydD,ydl,yex,ydw,ydN,ydk,slot.eq_1,pureOp,apureO,astepO,yet,killT,aev,cv,cvc,binK,ydB,ydF,cellsA,cellOk,setAll,fillA,yieldA,ydK,yed,ydx,ydM,ydQ,yek,chunk,ydH,yez,yeu,yeq,ydY,ydv,ydr,ycR,↓reduceIte,ycN,ycO,ycS,ycU,ydb,ydf,yeE,ydL,ycP,ydI,yeD,ycQ,ycV,yda,yeF,yeB,ydT,ydW,yef,ycT,ydc,ydA,Value.oneCell',true_and,and_self,reduceCtorEq,Nat.reduceAdd,Nat.reduceMul,Nat.reduceLT,Nat.reduceLeDiff,Nat.reduceEqDiff,Nat.reduceMod,ycY,ydp,Int.reduceToNat,ydO,ydP,decide_false,ydu,ydo,ydt,Ty.td3,Ty.td22,t0,t1,t2,t3,t4,t5,t6,t7,t8,t9,t10,t11,t12,c00,c01,c02,c03,c0,ydC,k0,k1,wrap_in (x := n - k) (by omega) (by omega),wrap_in (x := n - k + 1) (by omega) (by omega)]
              repeat refine ⟨by omega, ?_⟩
              refine call_meets (hs) (by simp only [aev,cv,cvc,elemsA,yel,ycZ,ydh,yde,↓reduceIte,ycN,ycS,ycU,ydd,yda,ydc,and_self,Nat.reduceAdd,ycY,ydu,ydo,rd1] <;> rfl) ?_; simp only [ydE,ydm,ydn,ydi,ydZ,ydq,ycX,ycW,ydg,ydl,ydw,ydN,ydk,yea,pureOp,apureO,killT,aev,cv,cvc,binK,ydB,ydM,elemsA,ydH,yen,yeh,yec,yer,ydv,ydr,ydG,yeb,yel,ycZ,ydh,yde,notExit,ydR,ydS,yei,↓reduceIte,ycN,ycO,ycS,ycU,ycP,ydd,yda,ycT,ydc,ydX,true_and,and_self,reduceCtorEq,Nat.reduceAdd,Nat.reduceEqDiff,ycY,ydJ,or_false,ydu,ydo,bne_self_eq_false,rd1]
              try simp
            · simp only [ydm,ydn,ydi,ydV,ydq,yeo,yeg,yep,ycX,ycW,yds,ydg,isCallV,ydy,ydz,ydD,ydl,ydw,ydk,pureOp,apureO,aev,cv,cvc,binK,ydB,yee,lenA,lenK,ydF,yieldA,ydK,ydx,ydQ,ycR,↓reduceIte,ycN,ycO,ycS,ycU,ydb,ydf,ycP,ycQ,ycV,ycT,true_and,ne_eq,reduceCtorEq,Nat.reduceEqDiff,ycY,Int.reduceToNat,ydj,ydt,Ty.td3,Ty.td22,Ty.td35,t0,t1,t2,t3,t4,t5,t6,t7,t8,t9,t10,t11,t12,c00,c01,c02,c03,c0,lists,ints,k0,k1,wrap_in (x := n - k) (by omega) (by omega),wrap_in (x := n - k + 1) (by omega) (by omega)]
              refine call_meets (hsd) (by simp only [aev,cv,cvc,ydG,ycZ,ydh,yde,t0,t1,t2,t3,t4,t5,t6,t7,t8,t9,t10,t11,t12,c00,c01,c02,c03,c0,k0,k1,wrap_in (x := n - k) (by omega) (by omega),wrap_in (x := n - k + 1) (by omega) (by omega)] <;> rfl) ?_; simp only [ydE,ydm,ydn,ydi,ydU,ydq,yew,ycX,ycW,yds,ydg,isCallV,ydy,ydz,ydD,ydl,yex,ydw,ydN,ydk,slot.eq_1,pureOp,apureO,astepO,yet,killT,aev,cv,cvc,binK,ydB,ydF,cellsA,cellOk,setAll,fillA,yieldA,ydK,yed,ydx,ydM,ydQ,yek,chunk,ydH,yez,yeu,yeq,ydY,ydv,ydr,ycR,↓reduceIte,ycN,ycO,ycS,ycU,ydb,ydf,yeE,ydL,ycP,ydI,yeD,ycQ,ycV,yda,yeF,yeB,ydT,ydW,yef,ycT,ydc,ydA,Value.oneCell',true_and,and_self,reduceCtorEq,Nat.reduceAdd,Nat.reduceMul,Nat.reduceLT,Nat.reduceLeDiff,Nat.reduceEqDiff,Nat.reduceMod,ycY,ydp,Int.reduceToNat,ydO,ydP,decide_false,ydu,ydo,ydt,Ty.td3,Ty.td22,t0,t1,t2,t3,t4,t5,t6,t7,t8,t9,t10,t11,t12,c00,c01,c02,c03,c0,ydC,k0,k1,wrap_in (x := n - k) (by omega) (by omega),wrap_in (x := n - k + 1) (by omega) (by omega)]
              repeat refine ⟨by omega, ?_⟩
              refine call_meets (hs) (by simp only [aev,cv,cvc,elemsA,yel,ycZ,ydh,yde,↓reduceIte,ycN,ycS,ycU,ydd,yda,ydc,and_self,Nat.reduceAdd,ycY,ydu,ydo,show (z != 0) = true by simpa using z0,rd1] <;> rfl) ?_; simp only [ydm,ydn,ydi,ydZ,ydq,yev,ycX,ycW,ydg,ydl,ydw,ydN,ydk,yea,pureOp,apureO,killT,aev,cv,cvc,binK,ydB,ydx,ydH,yen,yeh,yec,yer,ydv,ydr,ydG,yej,yeb,ycZ,ydh,yde,notExit,ydR,ydS,yei,↓reduceIte,ycN,ycO,ycP,ydd,ycT,ydc,ydX,true_and,and_self,Nat.reduceEqDiff,ydJ,or_false,show (z != 0) = true by simpa using z0,rd1]
              try simp [z0]
      case chunk =>
        have t0 : is_iota e = false := op_is ho .iota
        have t1 : is_fill e = false := op_is ho .fill
        have t2 : is_take e = false := op_is ho .take
        have t3 : is_drop e = false := op_is ho .drop
        have t4 : is_reverse e = false := op_is ho .reverse
        have t5 : is_append e = false := op_is ho .append
        have t6 : is_transpose e = false := op_is ho .transpose
        have t7 : is_diagonal e = false := op_is ho .diagonal
        have t8 : is_windows e = false := op_is ho .windows
        have t9 : is_chunk e = true := op_is ho .chunk
        have t10 : is_index e = false := op_is ho .index
        have t11 : is_update e = false := op_is ho .update
        have t12 : is_pack e = false := op_is ho .pack
        replace hsd : Meets Try.prog 50 [S e] (B false) := hsd
        replace hll : L.length = 1 := Int.ofNat_inj.1 (hll rfl)
        obtain ⟨xs, rfl⟩ := List.length_eq_one_iff.1 hll
        obtain rfl := List.eq_nil_of_length_eq_zero (Int.ofNat_inj.1 hzl)
        have hs0 : xs.length = 1 := by have := hi; simp [rankB, rank, rk, ix] at this; first | omega | (obtain ⟨h1, h2, h3⟩ := this; subst_vars; simp_all; done) | (obtain ⟨h1, h2⟩ := this; subst_vars; simp_all; done) | (subst_vars; rfl)
        obtain ⟨n, rfl⟩ := List.length_eq_one_iff.1 hs0
        have bn := hz [n] (by simp) n (by simp)
        clear hi hi2 hz hd
        by_cases k0 : num < 1
        · skip
          rw [show dm Op13.chunk (kOf Op13.chunk [] num ([[n]] : List (List Int)).length) ([[n]] : List (List Int)).flatten = ([], 2) by show (if num < 1 ∨ 64 < num then ([], (2 : Int)) else if n.tmod num ≠ 0 then ([], 14) else ([W (n.tdiv num), num], 0)) = _; rw [if_pos (Or.inl k0)]]
          simp only [ydm,ydn,ydi,ydV,ydq,yeo,yeg,yep,ycX,ycW,yds,ydg,isCallV,ydy,ydz,ydD,ydl,ydw,ydk,pureOp,apureO,aev,cv,cvc,binK,ydB,yee,lenA,lenK,ydF,yieldA,ydK,ydx,ydQ,ycR,↓reduceIte,ycN,ycO,ycS,ycU,ydb,ydf,ycP,ycQ,ycV,ycT,true_and,reduceCtorEq,Nat.reduceEqDiff,ycY,Int.reduceToNat,ydj,ydt,Ty.td3,Ty.td22,Ty.td35,t0,t1,t2,t3,t4,t5,t6,t7,t8,t9,t10,t11,t12,c00,c01,c02,c03,c0,lists,ints,k0]
          refine call_meets (hsd) (by simp only [aev,cv,cvc,ydG,ycZ,ydh,yde,t0,t1,t2,t3,t4,t5,t6,t7,t8,t9,t10,t11,t12,c00,c01,c02,c03,c0,k0,rd1] <;> rfl) ?_; simp only [ydE,ydm,ydn,ydi,ydU,ydZ,ydq,yev,blkQ_r,ycX,ycW,yds,ydg,ydD,ydl,ydw,ydN,ydk,yea,pureOp,apureO,killT,aev,cv,cvc,binK,yieldA,yem,yeC,yed,ydx,ydM,ydQ,yek,ydH,ydY,ydv,ydr,ydG,yej,yeb,ycZ,ydh,yde,notExit,ydR,ydS,yei,↓reduceIte,ycN,ycO,ycP,ycQ,ycV,ydd,ycT,ydA,true_and,ne_eq,reduceCtorEq,Nat.reduceEqDiff,ydp,decide_true,t0,t1,t2,t3,t4,t5,t6,t7,t8,t9,t10,t11,t12,c00,c01,c02,c03,c0,ints,k0,fin2,rd1]
          try simp
        · by_cases k1 : 64 < num
          · skip
            rw [show dm Op13.chunk (kOf Op13.chunk [] num ([[n]] : List (List Int)).length) ([[n]] : List (List Int)).flatten = ([], 2) by show (if num < 1 ∨ 64 < num then ([], (2 : Int)) else if n.tmod num ≠ 0 then ([], 14) else ([W (n.tdiv num), num], 0)) = _; rw [if_pos (Or.inr k1)]]
            simp only [ydm,ydn,ydi,ydV,ydq,yeo,yeg,yep,ycX,ycW,yds,ydg,isCallV,ydy,ydz,ydD,ydl,ydw,ydk,pureOp,apureO,aev,cv,cvc,binK,ydB,yee,lenA,lenK,ydF,yieldA,ydK,ydx,ydQ,ycR,↓reduceIte,ycN,ycO,ycS,ycU,ydb,ydf,ycP,ycQ,ycV,ycT,true_and,reduceCtorEq,Nat.reduceEqDiff,ycY,Int.reduceToNat,ydj,ydt,Ty.td3,Ty.td22,Ty.td35,t0,t1,t2,t3,t4,t5,t6,t7,t8,t9,t10,t11,t12,c00,c01,c02,c03,c0,lists,ints,k0,k1]
            refine call_meets (hsd) (by simp only [aev,cv,cvc,ydG,ycZ,ydh,yde,t0,t1,t2,t3,t4,t5,t6,t7,t8,t9,t10,t11,t12,c00,c01,c02,c03,c0,k0,k1,rd1] <;> rfl) ?_; simp only [ydE,ydm,ydn,ydi,ydU,ydZ,ydq,yev,blkQ_r,ycX,ycW,yds,ydg,ydD,ydl,ydw,ydN,ydk,yea,pureOp,apureO,killT,aev,cv,cvc,binK,yieldA,yem,yed,ydx,ydM,yek,ydH,ydY,ydv,ydr,ydG,yej,yeb,ycZ,ydh,yde,notExit,ydR,ydS,yei,↓reduceIte,ycN,ycO,ycP,ycQ,ycV,ydd,ycT,ydA,true_and,ne_eq,reduceCtorEq,Nat.reduceEqDiff,ydp,decide_true,decide_false,t0,t1,t2,t3,t4,t5,t6,t7,t8,t9,t10,t11,t12,c00,c01,c02,c03,c0,ints,k0,k1,fin2,rd1]
            try simp
          · have num0 : num ≠ 0 := by omega
            have hq : n.tdiv num = n / num := Int.tdiv_eq_ediv_of_nonneg bn.1
            have hr : n.tmod num = n % num := Int.tmod_eq_emod_of_nonneg bn.1
            have hb1 := Int.emod_nonneg n num0
            have hb2 := Int.emod_lt_of_pos n (show 0 < num by omega)
            have hd1 := Int.ediv_nonneg bn.1 (show 0 ≤ num by omega)
            have hd2 := Int.ediv_le_self num bn.1
            have nz : (num == 0) = false := beq_false_of_ne (by omega)
            by_cases h : n % num = 0
            · skip
              rw [show dm Op13.chunk (kOf Op13.chunk [] num ([[n]] : List (List Int)).length) ([[n]] : List (List Int)).flatten = ([n / num, num], 0) by show (if num < 1 ∨ 64 < num then ([], (2 : Int)) else if n.tmod num ≠ 0 then ([], 14) else ([W (n.tdiv num), num], 0)) = _; rw [if_neg (by omega), hr, h, if_neg (by simp), hq, show W (n / num) = n / num from wrap_in (x := n / num) (by omega) (by omega)]]
              have hs := refSize [n / num, num] (by simp)
              rw [show fin2 ([n / num, num], 0) = if (sizeE [n / num, num]).2 ≠ 0 then ([], (sizeE [n / num, num]).2) else ([n / num, num], 0) from rfl]
              generalize sizeE [n / num, num] = z at *
              obtain ⟨q, z⟩ := z
              simp only [ints,ydb,ydf] at hs
              by_cases z0 : z = 0
              · subst z0
                simp only [ydm,ydn,ydi,ydV,ydq,yeo,yeg,yep,ycX,ycW,yds,ydg,isCallV,ydy,ydz,ydD,ydl,ydw,ydk,pureOp,apureO,aev,cv,cvc,binK,ydB,yee,lenA,lenK,ydF,yieldA,ydK,ydx,ydQ,ycR,↓reduceIte,ycN,ycO,ycS,ycU,ydb,ydf,ycP,ycQ,ycV,ycT,true_and,ne_eq,not_true_eq_false,reduceCtorEq,Nat.reduceEqDiff,ycY,Int.reduceToNat,ydj,ydt,Ty.td3,Ty.td22,Ty.td35,t0,t1,t2,t3,t4,t5,t6,t7,t8,t9,t10,t11,t12,c00,c01,c02,c03,c0,lists,ints,k0,k1,nz,hq,hr,wrap_in (x := n % num) (by omega) (by omega),wrap_in (x := n / num) (by omega) (by omega),h]
                refine call_meets (hsd) (by simp only [aev,cv,cvc,ydG,ycZ,ydh,yde,t0,t1,t2,t3,t4,t5,t6,t7,t8,t9,t10,t11,t12,c00,c01,c02,c03,c0,k0,k1,nz,hq,hr,wrap_in (x := n % num) (by omega) (by omega),wrap_in (x := n / num) (by omega) (by omega),h] <;> rfl) ?_; simp only [ydE,ydm,ydn,ydi,ydU,ydq,yew,ycX,ycW,yds,ydg,isCallV,ydy,ydz,ydD,ydl,yex,ydw,ydN,ydk,slot.eq_1,pureOp,apureO,astepO,yet,killT,aev,cv,cvc,binK,ydB,cellsA,cellOk,setAll,fillA,yieldA,yem,yed,ydx,ydM,yek,chunk,ydH,yez,yeu,yeq,ydY,ydv,ydr,ycR,↓reduceIte,ycN,ycO,ycS,ycU,ydb,ydf,yeE,ydL,ycP,ydI,yeD,ycQ,ycV,yda,yeF,yeB,ydT,ydW,yef,ycT,ydc,ydA,Value.oneCell',true_and,and_self,ne_eq,not_false_eq_true,reduceCtorEq,Nat.reduceAdd,Nat.reduceMul,Nat.reduceLT,Nat.reduceLeDiff,Nat.reduceEqDiff,Nat.reduceMod,ycY,ydp,ydO,ydP,decide_false,ydu,ydo,Ty.td3,Ty.td22,t0,t1,t2,t3,t4,t5,t6,t7,t8,t9,t10,t11,t12,c00,c01,c02,c03,c0,ydC,k0,k1,nz,num0,hq,hr,wrap_in (x := n % num) (by omega) (by omega),wrap_in (x := n / num) (by omega) (by omega),h,bne_self_eq_false]
                repeat refine ⟨by omega, ?_⟩
                refine call_meets (hs) (by simp only [aev,cv,cvc,elemsA,yel,ycZ,ydh,yde,↓reduceIte,ycN,ycS,ycU,ydd,yda,ydc,and_self,Nat.reduceAdd,ycY,ydu,ydo,rd1] <;> rfl) ?_; simp only [ydE,ydm,ydn,ydi,ydZ,ydq,ycX,ycW,ydg,ydl,ydw,ydN,ydk,yea,pureOp,apureO,killT,aev,cv,cvc,binK,ydB,ydM,elemsA,ydH,yen,yeh,yec,yer,ydv,ydr,ydG,yeb,yel,ycZ,ydh,yde,notExit,ydR,ydS,yei,↓reduceIte,ycN,ycO,ycS,ycU,ycP,ydd,yda,ycT,ydc,ydX,true_and,and_self,reduceCtorEq,Nat.reduceAdd,Nat.reduceEqDiff,ycY,ydJ,or_false,ydu,ydo,bne_self_eq_false,rd1]
                try simp
              · simp only [ydm,ydn,ydi,ydV,ydq,yeo,yeg,yep,ycX,ycW,yds,ydg,isCallV,ydy,ydz,ydD,ydl,ydw,ydk,pureOp,apureO,aev,cv,cvc,binK,ydB,yee,lenA,lenK,ydF,yieldA,ydK,ydx,ydQ,ycR,↓reduceIte,ycN,ycO,ycS,ycU,ydb,ydf,ycP,ycQ,ycV,ycT,true_and,ne_eq,reduceCtorEq,Nat.reduceEqDiff,ycY,Int.reduceToNat,ydj,ydt,Ty.td3,Ty.td22,Ty.td35,t0,t1,t2,t3,t4,t5,t6,t7,t8,t9,t10,t11,t12,c00,c01,c02,c03,c0,lists,ints,k0,k1,nz,hq,hr,wrap_in (x := n % num) (by omega) (by omega),wrap_in (x := n / num) (by omega) (by omega),h]
                refine call_meets (hsd) (by simp only [aev,cv,cvc,ydG,ycZ,ydh,yde,t0,t1,t2,t3,t4,t5,t6,t7,t8,t9,t10,t11,t12,c00,c01,c02,c03,c0,k0,k1,nz,hq,hr,wrap_in (x := n % num) (by omega) (by omega),wrap_in (x := n / num) (by omega) (by omega),h] <;> rfl) ?_; simp only [ydE,ydm,ydn,ydi,ydU,ydq,yew,ycX,ycW,yds,ydg,isCallV,ydy,ydz,ydD,ydl,yex,ydw,ydN,ydk,slot.eq_1,pureOp,apureO,astepO,yet,killT,aev,cv,cvc,binK,ydB,cellsA,cellOk,setAll,fillA,yieldA,yem,yed,ydx,ydM,yek,chunk,ydH,yez,yeu,yeq,ydY,ydv,ydr,ycR,↓reduceIte,ycN,ycO,ycS,ycU,ydb,ydf,yeE,ydL,ycP,ydI,yeD,ycQ,ycV,yda,yeF,yeB,ydT,ydW,yef,ycT,ydc,ydA,Value.oneCell',true_and,and_self,ne_eq,not_false_eq_true,reduceCtorEq,Nat.reduceAdd,Nat.reduceMul,Nat.reduceLT,Nat.reduceLeDiff,Nat.reduceEqDiff,Nat.reduceMod,ycY,ydp,ydO,ydP,decide_false,ydu,ydo,Ty.td3,Ty.td22,t0,t1,t2,t3,t4,t5,t6,t7,t8,t9,t10,t11,t12,c00,c01,c02,c03,c0,ydC,k0,k1,nz,num0,hq,hr,wrap_in (x := n % num) (by omega) (by omega),wrap_in (x := n / num) (by omega) (by omega),h,bne_self_eq_false]
                repeat refine ⟨by omega, ?_⟩
                refine call_meets (hs) (by simp only [aev,cv,cvc,elemsA,yel,ycZ,ydh,yde,↓reduceIte,ycN,ycS,ycU,ydd,yda,ydc,and_self,Nat.reduceAdd,ycY,ydu,ydo,show (z != 0) = true by simpa using z0,rd1] <;> rfl) ?_; simp only [ydm,ydn,ydi,ydZ,ydq,yev,ycX,ycW,ydg,ydl,ydw,ydN,ydk,yea,pureOp,apureO,killT,aev,cv,cvc,binK,ydB,ydx,ydH,yen,yeh,yec,yer,ydv,ydr,ydG,yej,yeb,ycZ,ydh,yde,notExit,ydR,ydS,yei,↓reduceIte,ycN,ycO,ycP,ydd,ycT,ydc,ydX,true_and,and_self,Nat.reduceEqDiff,ydJ,or_false,show (z != 0) = true by simpa using z0,rd1]
                try simp [z0]
            · skip
              rw [show dm Op13.chunk (kOf Op13.chunk [] num ([[n]] : List (List Int)).length) ([[n]] : List (List Int)).flatten = ([], 14) by show (if num < 1 ∨ 64 < num then ([], (2 : Int)) else if n.tmod num ≠ 0 then ([], 14) else ([W (n.tdiv num), num], 0)) = _; rw [if_neg (by omega), hr, if_pos h]]
              simp only [ydm,ydn,ydi,ydV,ydq,yeo,yeg,yep,ycX,ycW,yds,ydg,isCallV,ydy,ydz,ydD,ydl,ydw,ydk,pureOp,apureO,aev,cv,cvc,binK,ydB,yee,lenA,lenK,ydF,yieldA,ydK,ydx,ydQ,ycR,↓reduceIte,ycN,ycO,ycS,ycU,ydb,ydf,ycP,ycQ,ycV,ycT,true_and,reduceCtorEq,Nat.reduceEqDiff,ycY,Int.reduceToNat,ydj,ydt,Ty.td3,Ty.td22,Ty.td35,t0,t1,t2,t3,t4,t5,t6,t7,t8,t9,t10,t11,t12,c00,c01,c02,c03,c0,lists,ints,k0,k1,nz,hq,hr,wrap_in (x := n % num) (by omega) (by omega),wrap_in (x := n / num) (by omega) (by omega),show (n % num != 0) = true by simpa using h]
              refine call_meets (hsd) (by simp only [aev,cv,cvc,ydG,ycZ,ydh,yde,t0,t1,t2,t3,t4,t5,t6,t7,t8,t9,t10,t11,t12,c00,c01,c02,c03,c0,k0,k1,nz,hq,hr,wrap_in (x := n % num) (by omega) (by omega),wrap_in (x := n / num) (by omega) (by omega),show (n % num != 0) = true by simpa using h,rd1] <;> rfl) ?_; simp only [ydE,ydm,ydn,ydi,ydU,ydZ,ydq,yev,blkQ_r,ycX,ycW,yds,ydg,ydD,ydl,ydw,ydN,ydk,yea,pureOp,apureO,killT,aev,cv,cvc,binK,yieldA,yem,yed,ydx,ydM,yek,ydH,ydY,ydv,ydr,ydG,yej,yeb,ycZ,ydh,yde,notExit,ydR,ydS,yei,↓reduceIte,ycN,ycO,ycP,ycQ,ycV,ydd,ycT,ydA,true_and,ne_eq,not_false_eq_true,reduceCtorEq,Nat.reduceEqDiff,ydp,decide_false,t0,t1,t2,t3,t4,t5,t6,t7,t8,t9,t10,t11,t12,c00,c01,c02,c03,c0,ints,k0,k1,nz,num0,hq,hr,wrap_in (x := n % num) (by omega) (by omega),wrap_in (x := n / num) (by omega) (by omega),show (n % num != 0) = true by simpa using h,fin2,rd1]
              try simp
      case index =>
        have t0 : is_iota e = false := op_is ho .iota
        have t1 : is_fill e = false := op_is ho .fill
        have t2 : is_take e = false := op_is ho .take
        have t3 : is_drop e = false := op_is ho .drop
        have t4 : is_reverse e = false := op_is ho .reverse
        have t5 : is_append e = false := op_is ho .append
        have t6 : is_transpose e = false := op_is ho .transpose
        have t7 : is_diagonal e = false := op_is ho .diagonal
        have t8 : is_windows e = false := op_is ho .windows
        have t9 : is_chunk e = false := op_is ho .chunk
        have t10 : is_index e = true := op_is ho .index
        have t11 : is_update e = false := op_is ho .update
        have t12 : is_pack e = false := op_is ho .pack
        replace hsd : Meets Try.prog 50 [S e] (B false) := hsd
        replace hll : L.length = 2 := Int.ofNat_inj.1 (hll rfl)
        obtain ⟨xs, ys, rfl⟩ : ∃ a b, L = [a, b] := by match L, hll with | [a, b], _ => exact ⟨a, b, rfl⟩
        obtain rfl := List.eq_nil_of_length_eq_zero (Int.ofNat_inj.1 hzl)
        have hs0 : xs.length = 1 := by have := hi; simp [rankB, rank, rk, ix] at this; first | omega | (obtain ⟨h1, h2, h3⟩ := this; subst_vars; simp_all; done) | (obtain ⟨h1, h2⟩ := this; subst_vars; simp_all; done) | (subst_vars; rfl)
        have hs1 : ys.length = 0 := by have := hi; simp [rankB, rank, rk, ix] at this; first | omega | (obtain ⟨h1, h2, h3⟩ := this; subst_vars; simp_all; done) | (obtain ⟨h1, h2⟩ := this; subst_vars; simp_all; done) | (subst_vars; rfl)
        obtain ⟨n, rfl⟩ := List.length_eq_one_iff.1 hs0
        obtain rfl := List.eq_nil_of_length_eq_zero hs1
        have bn := hz [n] (by simp) n (by simp)
        clear hi hi2 hz hd
        rw [show dm Op13.index (kOf Op13.index [] num ([[n], []] : List (List Int)).length) ([[n], []] : List (List Int)).flatten = ([], 0) by rfl]
        have hs := refSize [] (by simp)
        rw [show fin2 ([], 0) = if (sizeE []).2 ≠ 0 then ([], (sizeE []).2) else ([], 0) from rfl]
        generalize sizeE [] = z at *
        obtain ⟨q, z⟩ := z
        simp only [ints,ydb,ydf] at hs
        by_cases z0 : z = 0
        · subst z0
          simp only [ydm,ydn,ydi,ydV,ydq,yeo,yeg,yep,ycX,ycW,yds,ydg,isCallV,ydy,ydz,ydD,ydl,ydw,ydk,pureOp,apureO,aev,cv,cvc,binK,ydB,yee,lenA,lenK,ydF,yieldA,ydK,ydx,ydQ,ycR,↓reduceIte,ycN,ycO,ycS,ycU,ydb,ydf,ycP,ycQ,ycV,ycT,true_and,ne_eq,not_true_eq_false,reduceCtorEq,Nat.reduceAdd,Nat.reduceEqDiff,ycY,Int.reduceToNat,ydj,ydt,Ty.td3,Ty.td22,Ty.td35,t0,t1,t2,t3,t4,t5,t6,t7,t8,t9,t10,t11,t12,c00,c01,c02,c03,c0,lists,ints]
          refine call_meets (hsd) (by simp only [aev,cv,cvc,ydG,ycZ,ydh,yde,t0,t1,t2,t3,t4,t5,t6,t7,t8,t9,t10,t11,t12,c00,c01,c02,c03,c0] <;> rfl) ?_; simp only [ydE,ydm,ydn,ydi,ydU,ydq,yew,ycX,ycW,yds,ydg,isCallV,ydy,ydz,ydD,ydl,ydw,ydN,ydk,pureOp,apureO,killT,aev,cv,cvc,binK,yieldA,yem,yed,ydM,yek,ydH,ydY,ydv,ydr,ycR,↓reduceIte,ycN,ycO,ydb,ydf,ycP,ycQ,ycV,ycT,ydA,true_and,reduceCtorEq,Nat.reduceEqDiff,ydp,t0,t1,t2,t3,t4,t5,t6,t7,t8,t9,t10,t11,t12,c00,c01,c02,c03,c0]
          repeat refine ⟨by omega, ?_⟩
          refine call_meets (Meets.nil (pre := []) (post := []) hs) (by simp only [aev,cv,cvc,yej,ycZ,ydh,yde,ydL] <;> rfl) ?_
          simp only [ydE,ydm,ydn,ydi,ydZ,ydq,ycX,ycW,ydg,ydl,ydw,ydN,ydk,yea,pureOp,apureO,killT,aev,cv,cvc,binK,ydB,ydM,ydH,yen,yeh,yec,ownsV_nils,ydv,ydr,ydG,yej,yeb,ycZ,ydh,yde,notExit,ydR,ydS,yei,↓reduceIte,ycN,ycO,ycP,ydd,ydc,ydA,and_self,Nat.reduceEqDiff,ydp,bne_self_eq_false,rd1]
          try simp
        · simp only [ydm,ydn,ydi,ydV,ydq,yeo,yeg,yep,ycX,ycW,yds,ydg,isCallV,ydy,ydz,ydD,ydl,ydw,ydk,pureOp,apureO,aev,cv,cvc,binK,ydB,yee,lenA,lenK,ydF,yieldA,ydK,ydx,ydQ,ycR,↓reduceIte,ycN,ycO,ycS,ycU,ydb,ydf,ycP,ycQ,ycV,ycT,true_and,ne_eq,reduceCtorEq,Nat.reduceAdd,Nat.reduceEqDiff,ycY,Int.reduceToNat,ydj,ydt,Ty.td3,Ty.td22,Ty.td35,t0,t1,t2,t3,t4,t5,t6,t7,t8,t9,t10,t11,t12,c00,c01,c02,c03,c0,lists,ints]
          refine call_meets (hsd) (by simp only [aev,cv,cvc,ydG,ycZ,ydh,yde,t0,t1,t2,t3,t4,t5,t6,t7,t8,t9,t10,t11,t12,c00,c01,c02,c03,c0] <;> rfl) ?_; simp only [ydE,ydm,ydn,ydi,ydU,ydq,yew,ycX,ycW,yds,ydg,isCallV,ydy,ydz,ydD,ydl,ydw,ydN,ydk,pureOp,apureO,killT,aev,cv,cvc,binK,yieldA,yem,yed,ydM,yek,ydH,ydY,ydv,ydr,ycR,↓reduceIte,ycN,ycO,ydb,ydf,ycP,ycQ,ycV,ycT,ydA,true_and,reduceCtorEq,Nat.reduceEqDiff,ydp,t0,t1,t2,t3,t4,t5,t6,t7,t8,t9,t10,t11,t12,c00,c01,c02,c03,c0]
          repeat refine ⟨by omega, ?_⟩
          refine call_meets (Meets.nil (pre := []) (post := []) hs) (by simp only [aev,cv,cvc,yej,ycZ,ydh,yde,ydL] <;> rfl) ?_
          simp only [ydm,ydn,ydi,ydZ,ydq,yev,ycX,ycW,ydg,ydl,ydw,ydN,ydk,yea,pureOp,apureO,killT,aev,cv,cvc,binK,ydB,ydx,ydH,yen,yeh,yec,ownsV_nils,ydv,ydr,ydG,yej,yeb,ycZ,ydh,yde,notExit,ydR,ydS,yei,↓reduceIte,ycN,ycO,ycP,ydd,ycT,ydc,ydA,true_and,and_self,Nat.reduceEqDiff,ydp,show (z != 0) = true by simpa using z0,rd1]
          try simp [z0]
      case update =>
        have t0 : is_iota e = false := op_is ho .iota
        have t1 : is_fill e = false := op_is ho .fill
        have t2 : is_take e = false := op_is ho .take
        have t3 : is_drop e = false := op_is ho .drop
        have t4 : is_reverse e = false := op_is ho .reverse
        have t5 : is_append e = false := op_is ho .append
        have t6 : is_transpose e = false := op_is ho .transpose
        have t7 : is_diagonal e = false := op_is ho .diagonal
        have t8 : is_windows e = false := op_is ho .windows
        have t9 : is_chunk e = false := op_is ho .chunk
        have t10 : is_index e = false := op_is ho .index
        have t11 : is_update e = true := op_is ho .update
        have t12 : is_pack e = false := op_is ho .pack
        replace hsd : Meets Try.prog 50 [S e] (B false) := hsd
        replace hll : L.length = 3 := Int.ofNat_inj.1 (hll rfl)
        obtain ⟨xs, ys, ws, rfl⟩ : ∃ a b c, L = [a, b, c] := by match L, hll with | [a, b, c], _ => exact ⟨a, b, c, rfl⟩
        obtain rfl := List.eq_nil_of_length_eq_zero (Int.ofNat_inj.1 hzl)
        have hs0 : xs.length = 1 := by have := hi; simp [rankB, rank, rk, ix] at this; first | omega | (obtain ⟨h1, h2, h3⟩ := this; subst_vars; simp_all; done) | (obtain ⟨h1, h2⟩ := this; subst_vars; simp_all; done) | (subst_vars; rfl)
        have hs1 : ys.length = 0 := by have := hi; simp [rankB, rank, rk, ix] at this; first | omega | (obtain ⟨h1, h2, h3⟩ := this; subst_vars; simp_all; done) | (obtain ⟨h1, h2⟩ := this; subst_vars; simp_all; done) | (subst_vars; rfl)
        have hs2 : ws.length = 0 := by have := hi; simp [rankB, rank, rk, ix] at this; first | omega | (obtain ⟨h1, h2, h3⟩ := this; subst_vars; simp_all; done) | (obtain ⟨h1, h2⟩ := this; subst_vars; simp_all; done) | (subst_vars; rfl)
        obtain ⟨n, rfl⟩ := List.length_eq_one_iff.1 hs0
        obtain rfl := List.eq_nil_of_length_eq_zero hs1
        obtain rfl := List.eq_nil_of_length_eq_zero hs2
        have bn := hz [n] (by simp) n (by simp)
        clear hi hi2 hz hd
        rw [show dm Op13.update (kOf Op13.update [] num ([[n], [], []] : List (List Int)).length) ([[n], [], []] : List (List Int)).flatten = ([n], 0) by rfl]
        have hs := refSize [n] (by simp)
        rw [show fin2 ([n], 0) = if (sizeE [n]).2 ≠ 0 then ([], (sizeE [n]).2) else ([n], 0) from rfl]
        generalize sizeE [n] = z at *
        obtain ⟨q, z⟩ := z
        simp only [ints,ydb,ydf] at hs
        by_cases z0 : z = 0
        · subst z0
          simp only [ydm,ydn,ydi,ydV,ydq,yeo,yeg,yep,ycX,ycW,yds,ydg,isCallV,ydy,ydz,ydD,ydl,ydw,ydk,pureOp,apureO,aev,cv,cvc,binK,ydB,yee,lenA,lenK,ydF,yieldA,ydK,ydx,ydQ,ycR,↓reduceIte,ycN,ycO,ycS,ycU,ydb,ydf,ycP,ycQ,ycV,ycT,true_and,ne_eq,not_true_eq_false,reduceCtorEq,Nat.reduceAdd,Nat.reduceEqDiff,ycY,Int.reduceToNat,ydj,ydt,Ty.td3,Ty.td22,Ty.td35,t0,t1,t2,t3,t4,t5,t6,t7,t8,t9,t10,t11,t12,c00,c01,c02,c03,c0,lists,ints]
          refine call_meets (hsd) (by simp only [aev,cv,cvc,ydG,ycZ,ydh,yde,t0,t1,t2,t3,t4,t5,t6,t7,t8,t9,t10,t11,t12,c00,c01,c02,c03,c0] <;> rfl) ?_; simp only [ydE,ydm,ydn,ydi,ydU,ydq,yew,ycX,ycW,yds,ydg,isCallV,ydy,ydz,ydD,ydl,yex,ydw,ydN,ydk,slot.eq_1,pureOp,apureO,astepO,yet,killT,aev,cv,cvc,binK,ydB,cellsA,cellOk,setAll,fillA,yieldA,yem,yed,ydx,ydM,yek,chunk,ydH,yez,yeu,yeq,ydY,ydv,ydr,ycR,↓reduceIte,ycN,ycO,ycS,ycU,ydb,ydf,ydL,ycP,ydI,ycQ,ycV,yda,ydT,ydW,yef,ycT,ydc,ydA,Value.oneCell',true_and,and_self,reduceCtorEq,Nat.reduceMul,Nat.reduceLT,Nat.reduceLeDiff,Nat.reduceEqDiff,Nat.reduceMod,ycY,ydp,ydO,ydP,ydu,ydo,Ty.td3,Ty.td22,t0,t1,t2,t3,t4,t5,t6,t7,t8,t9,t10,t11,t12,c00,c01,c02,c03,c0,ydC]
          repeat refine ⟨by omega, ?_⟩
          refine call_meets (hs) (by simp only [aev,cv,cvc,elemsA,yel,ycZ,ydh,yde,↓reduceIte,ycN,ycS,ycU,ydd,yda,ydc,and_self,ycY,ydu,ydo,rd1] <;> rfl) ?_; simp only [ydE,ydm,ydn,ydi,ydZ,ydq,ycX,ycW,ydg,ydl,ydw,ydN,ydk,yea,pureOp,apureO,killT,aev,cv,cvc,binK,ydB,ydM,elemsA,ydH,yen,yeh,yec,yer,ydv,ydr,ydG,yeb,yel,ycZ,ydh,yde,notExit,ydR,ydS,yei,↓reduceIte,ycN,ycO,ycS,ycU,ycP,ydd,yda,ycT,ydc,ydX,true_and,and_self,reduceCtorEq,Nat.reduceEqDiff,ycY,ydJ,or_false,ydu,ydo,bne_self_eq_false,rd1]
          try simp
        · simp only [ydm,ydn,ydi,ydV,ydq,yeo,yeg,yep,ycX,ycW,yds,ydg,isCallV,ydy,ydz,ydD,ydl,ydw,ydk,pureOp,apureO,aev,cv,cvc,binK,ydB,yee,lenA,lenK,ydF,yieldA,ydK,ydx,ydQ,ycR,↓reduceIte,ycN,ycO,ycS,ycU,ydb,ydf,ycP,ycQ,ycV,ycT,true_and,ne_eq,reduceCtorEq,Nat.reduceAdd,Nat.reduceEqDiff,ycY,Int.reduceToNat,ydj,ydt,Ty.td3,Ty.td22,Ty.td35,t0,t1,t2,t3,t4,t5,t6,t7,t8,t9,t10,t11,t12,c00,c01,c02,c03,c0,lists,ints]
          refine call_meets (hsd) (by simp only [aev,cv,cvc,ydG,ycZ,ydh,yde,t0,t1,t2,t3,t4,t5,t6,t7,t8,t9,t10,t11,t12,c00,c01,c02,c03,c0] <;> rfl) ?_; simp only [ydE,ydm,ydn,ydi,ydU,ydq,yew,ycX,ycW,yds,ydg,isCallV,ydy,ydz,ydD,ydl,yex,ydw,ydN,ydk,slot.eq_1,pureOp,apureO,astepO,yet,killT,aev,cv,cvc,binK,ydB,cellsA,cellOk,setAll,fillA,yieldA,yem,yed,ydx,ydM,yek,chunk,ydH,yez,yeu,yeq,ydY,ydv,ydr,ycR,↓reduceIte,ycN,ycO,ycS,ycU,ydb,ydf,ydL,ycP,ydI,ycQ,ycV,yda,ydT,ydW,yef,ycT,ydc,ydA,Value.oneCell',true_and,and_self,reduceCtorEq,Nat.reduceMul,Nat.reduceLT,Nat.reduceLeDiff,Nat.reduceEqDiff,Nat.reduceMod,ycY,ydp,ydO,ydP,ydu,ydo,Ty.td3,Ty.td22,t0,t1,t2,t3,t4,t5,t6,t7,t8,t9,t10,t11,t12,c00,c01,c02,c03,c0,ydC]
          repeat refine ⟨by omega, ?_⟩
          refine call_meets (hs) (by simp only [aev,cv,cvc,elemsA,yel,ycZ,ydh,yde,↓reduceIte,ycN,ycS,ycU,ydd,yda,ydc,and_self,ycY,ydu,ydo,show (z != 0) = true by simpa using z0,rd1] <;> rfl) ?_; simp only [ydm,ydn,ydi,ydZ,ydq,yev,ycX,ycW,ydg,ydl,ydw,ydN,ydk,yea,pureOp,apureO,killT,aev,cv,cvc,binK,ydB,ydx,ydH,yen,yeh,yec,yer,ydv,ydr,ydG,yej,yeb,ycZ,ydh,yde,notExit,ydR,ydS,yei,↓reduceIte,ycN,ycO,ycP,ydd,ycT,ydc,ydX,true_and,and_self,Nat.reduceEqDiff,ydJ,or_false,show (z != 0) = true by simpa using z0,rd1]
          try simp [z0]
      case pack =>
        have t0 : is_iota e = false := op_is ho .iota
        have t1 : is_fill e = false := op_is ho .fill
        have t2 : is_take e = false := op_is ho .take
        have t3 : is_drop e = false := op_is ho .drop
        have t4 : is_reverse e = false := op_is ho .reverse
        have t5 : is_append e = false := op_is ho .append
        have t6 : is_transpose e = false := op_is ho .transpose
        have t7 : is_diagonal e = false := op_is ho .diagonal
        have t8 : is_windows e = false := op_is ho .windows
        have t9 : is_chunk e = false := op_is ho .chunk
        have t10 : is_index e = false := op_is ho .index
        have t11 : is_update e = false := op_is ho .update
        have t12 : is_pack e = true := op_is ho .pack
        replace hsd : Meets Try.prog 50 [S e] (B false) := hsd
        have hpos : (0 : Int) < L.length := by
          unfold formB at hform
          simp only [yeI] at hform
          have := hform.1.1
          rw [if_pos (show (ix Op13.pack == 12) = true from rfl)] at this
          exact of_decide_eq_true this
        have hx0 : L[0]? = some [] := by
          cases L with
          | nil => simp at hpos
          | cons a l =>
            rw [rankB, Bool.and_eq_true] at hi
            have := hi.1
            simp [rank, ix] at this
            rw [this]
            rfl
        obtain rfl := List.eq_nil_of_length_eq_zero (Int.ofNat_inj.1 hzl)
        have hE : dm Op13.pack (kOf Op13.pack [] num L.length) L.flatten = ([(L.length : Int)], 0) := by
          show wi L.length (max L.length 0) [(L.length : Int)] = _
          unfold wi
          rw [if_neg (by omega)]
        clear hi hi2 hz hd hat hform
        rw [hE]
        have hs := refSize [(L.length : Int)] (by simp)
        rw [show fin2 ([(L.length : Int)], 0) = if (sizeE [(L.length : Int)]).2 ≠ 0 then ([], (sizeE [(L.length : Int)]).2) else ([(L.length : Int)], 0) from rfl]
        generalize sizeE [(L.length : Int)] = z at *
        obtain ⟨q, z⟩ := z
        simp only [ints,ydb,ydf] at hs
        by_cases z0 : z = 0
        · subst z0
          simp only [ydE,ydm,ydn,ydi,ydV,ydq,yeo,yeg,yep,ycX,ycW,yds,ydg,isCallV,ydy,ydz,ydD,ydl,ydw,ydk,pureOp,apureO,aev,cv,cvc,binK,ydB,yee,lenA,lenK,ydF,yieldA,ydK,ydM,ydQ,ycR,↓reduceIte,ycN,ycO,ycU,ydb,ydf,ycP,ycQ,ycV,ydd,ycT,true_and,ne_eq,not_true_eq_false,reduceCtorEq,Nat.reduceEqDiff,Int.reduceToNat,ydj,decide_true,ydt,Ty.td22,Ty.td35,t0,t1,t2,t3,t4,t5,t6,t7,t8,t9,t10,t11,t12,c00,c01,c02,c03,c0,lists,ints,ydC,hpos,yey,hx0]
          refine call_meets (hsd) (by simp only [aev,cv,cvc,ydG,ycZ,ydh,yde,t0,t1,t2,t3,t4,t5,t6,t7,t8,t9,t10,t11,t12,c00,c01,c02,c03,c0,hx0] <;> rfl) ?_; simp only [ydE,ydm,ydn,ydi,ydU,ydq,yew,ycX,ycW,yds,ydg,isCallV,ydy,ydz,ydD,ydl,yex,ydw,ydN,ydk,slot.eq_1,pureOp,apureO,astepO,yet,killT,aev,cv,cvc,binK,ydB,lenA,lenK,cellsA,cellOk,setAll,fillA,yieldA,yem,yed,ydx,ydM,yek,chunk,ydH,yez,yeu,yeq,ydY,ydv,ydr,ycR,↓reduceIte,ycN,ycO,ycS,ycU,ydb,ydf,ydL,ycP,ydI,ycQ,ycV,yda,ydT,ydW,yef,ycT,ydc,ydA,Value.oneCell',true_and,and_self,reduceCtorEq,Nat.reduceMul,Nat.reduceLT,Nat.reduceLeDiff,Nat.reduceEqDiff,Nat.reduceMod,ycY,ydp,ydO,ydP,ydj,ydu,ydo,Ty.td3,Ty.td22,Ty.td35,t0,t1,t2,t3,t4,t5,t6,t7,t8,t9,t10,t11,t12,c00,c01,c02,c03,c0,ydC,yey,hx0]
          repeat refine ⟨by omega, ?_⟩
          refine call_meets (hs) (by simp only [aev,cv,cvc,elemsA,yel,ycZ,ydh,yde,↓reduceIte,ycN,ycS,ycU,ydd,yda,ydc,and_self,ycY,ydu,ydo,rd1] <;> rfl) ?_; simp only [ydE,ydm,ydn,ydi,ydZ,ydq,ycX,ycW,ydg,ydl,ydw,ydN,ydk,yea,pureOp,apureO,killT,aev,cv,cvc,binK,ydB,ydM,elemsA,ydH,yen,yeh,yec,yer,ydv,ydr,ydG,yeb,yel,ycZ,ydh,yde,notExit,ydR,ydS,yei,↓reduceIte,ycN,ycO,ycS,ycU,ycP,ydd,yda,ycT,ydc,ydX,true_and,and_self,reduceCtorEq,Nat.reduceEqDiff,ycY,ydJ,or_false,ydu,ydo,bne_self_eq_false,rd1]
          try simp
        · simp only [ydE,ydm,ydn,ydi,ydV,ydq,yeo,yeg,yep,ycX,ycW,yds,ydg,isCallV,ydy,ydz,ydD,ydl,ydw,ydk,pureOp,apureO,aev,cv,cvc,binK,ydB,yee,lenA,lenK,ydF,yieldA,ydK,ydM,ydQ,ycR,↓reduceIte,ycN,ycO,ycU,ydb,ydf,ycP,ycQ,ycV,ydd,ycT,true_and,ne_eq,reduceCtorEq,Nat.reduceEqDiff,Int.reduceToNat,ydj,decide_true,ydt,Ty.td22,Ty.td35,t0,t1,t2,t3,t4,t5,t6,t7,t8,t9,t10,t11,t12,c00,c01,c02,c03,c0,lists,ints,ydC,hpos,yey,hx0]
          refine call_meets (hsd) (by simp only [aev,cv,cvc,ydG,ycZ,ydh,yde,t0,t1,t2,t3,t4,t5,t6,t7,t8,t9,t10,t11,t12,c00,c01,c02,c03,c0,hx0] <;> rfl) ?_; simp only [ydE,ydm,ydn,ydi,ydU,ydq,yew,ycX,ycW,yds,ydg,isCallV,ydy,ydz,ydD,ydl,yex,ydw,ydN,ydk,slot.eq_1,pureOp,apureO,astepO,yet,killT,aev,cv,cvc,binK,ydB,lenA,lenK,cellsA,cellOk,setAll,fillA,yieldA,yem,yed,ydx,ydM,yek,chunk,ydH,yez,yeu,yeq,ydY,ydv,ydr,ycR,↓reduceIte,ycN,ycO,ycS,ycU,ydb,ydf,ydL,ycP,ydI,ycQ,ycV,yda,ydT,ydW,yef,ycT,ydc,ydA,Value.oneCell',true_and,and_self,reduceCtorEq,Nat.reduceMul,Nat.reduceLT,Nat.reduceLeDiff,Nat.reduceEqDiff,Nat.reduceMod,ycY,ydp,ydO,ydP,ydj,ydu,ydo,Ty.td3,Ty.td22,Ty.td35,t0,t1,t2,t3,t4,t5,t6,t7,t8,t9,t10,t11,t12,c00,c01,c02,c03,c0,ydC,yey,hx0]
          repeat refine ⟨by omega, ?_⟩
          refine call_meets (hs) (by simp only [aev,cv,cvc,elemsA,yel,ycZ,ydh,yde,↓reduceIte,ycN,ycS,ycU,ydd,yda,ydc,and_self,ycY,ydu,ydo,show (z != 0) = true by simpa using z0,rd1] <;> rfl) ?_; simp only [ydm,ydn,ydi,ydZ,ydq,yev,ycX,ycW,ydg,ydl,ydw,ydN,ydk,yea,pureOp,apureO,killT,aev,cv,cvc,binK,ydB,ydx,ydH,yen,yeh,yec,yer,ydv,ydr,ydG,yej,yeb,ycZ,ydh,yde,notExit,ydR,ydS,yei,↓reduceIte,ycN,ycO,ycP,ydd,ycT,ydc,ydX,true_and,and_self,Nat.reduceEqDiff,ydJ,or_false,show (z != 0) = true by simpa using z0,rd1]
          try simp [z0]
end Go.Proofs.Ytbmmemglkjeogaa.S32
