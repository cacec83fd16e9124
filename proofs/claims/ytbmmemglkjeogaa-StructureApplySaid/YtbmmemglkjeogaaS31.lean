/- Structure: the type of a result in the reference; forms. -/
import Derived.Test.YtbmmemglkjeogaaS30
namespace Go.Proofs.Ytbmmemglkjeogaa.S31
open Go Go.Proofs.Ytbmmemglkjeogaa.Eng Go.Proofs.Ytbmmemglkjeogaa Go.RowKit Go.Proofs.Ytbmmemglkjeogaa.A1 Go.Proofs.Ytbmmemglkjeogaa.A2 Go.Proofs.Ytbmmemglkjeogaa.A3 Go.Proofs.Ytbmmemglkjeogaa.A4 Go.Proofs.Ytbmmemglkjeogaa.A5 Go.Proofs.Ytbmmemglkjeogaa.S1 Go.Proofs.Ytbmmemglkjeogaa.S2 Go.Proofs.Ytbmmemglkjeogaa.S3 Go.Proofs.Ytbmmemglkjeogaa.S4 Go.Proofs.Ytbmmemglkjeogaa.S5 Go.Proofs.Ytbmmemglkjeogaa.S6 Go.Proofs.Ytbmmemglkjeogaa.S7 Go.Proofs.Ytbmmemglkjeogaa.S8 Go.Proofs.Ytbmmemglkjeogaa.S9 Go.Proofs.Ytbmmemglkjeogaa.S13 Go.Proofs.Ytbmmemglkjeogaa.S14 Go.Proofs.Ytbmmemglkjeogaa.S29 Go.Proofs.Ytbmmemglkjeogaa.S30
open Bool renaming false_eq_true → ycN, not_false → ycQ, not_true → ycS, and_self → ycT, true_and → ycZ, and_true → yda, and_false → ydn, false_and → ydo
open List renaming getElem?_cons_zero → ycO, getElem?_cons_succ → ycP, getElem?_toArray → ycR, getElem?_map → ycW, append_nil → ydQ
open Int renaming natCast_nonneg → ycU, toNat_natCast → ycV
open Option renaming map_some → ycX, bind_some → ycY
open Go.Proofs.Ytbmmemglkjeogaa.Eng renaming slot_is → ydb, awpOps_nil → ydc, awpOps_one → ydd, awpOp_is → yde, awp_block → ydf, awp_cond → ydg, awpOps_if → ydh, awp_skip → ydi, awp_reg → ydj, awp_seq → ydk, putK_is → ydl, guardA_tt → ydm, seqQ_n → ydp, condA_f → ydq, awpO_is → ydr, loadA_d → yds, guardA_tf → ydt, pickA_t → ydu, guardA_ff → ydv, put_s → ydw, pickA_f → ydx, elO_s → ydy, consO_some → ydz, toDL_cons → ydA, loopQ_n → ydB, toDL_nil → ydC, condA_t → ydD, resA_nil → ydE, resA_tmp → ydF, blkQ_n → ydG, awp_ret → ydH, retA_is → ydI, toD_tup → ydJ, seqQ_r → ydK, oneA_2 → ydL, loopQ_r → ydM, toD_c → ydN, guardA_ft → ydO, blkQ_r → ydP
set_option linter.unusedSimpArgs false
set_option linter.unusedVariables false
set_option linter.unusedSectionVars false
set_option maxRecDepth 100000

theorem eq_of {a b : ByteArray} (h : (a.toList == b.toList) = true) : a = b := by
  rw [ByteArray.toList_eq, ByteArray.toList_eq, beq_iff_eq] at h
  exact ByteArray.ext (Array.ext' h)
/-- The reference's walk over the types. -/
def fR (isN : Bool) : List ByteArray → ByteArray → Nat → Option ByteArray
  | [], f, _ => some f
  | t :: ts, f, i => if badT t = true then none else if (isN && ((i : Int) == 1)) = true then (if isI t = true then fR isN ts f (i + 1) else none) else if (!(f.toList == ByteArray.toList ⟨#[]⟩) && !(f.toList == t.toList)) = true then none else fR isN ts t (i + 1)
def refResE (e : ByteArray) (es : List ByteArray) : ByteArray × Bool :=
  if (rksE e es.length).2 = false then (⟨#[]⟩, false) else match fR (isNm e) es ⟨#[]⟩ 0 with
    | none => (⟨#[]⟩, false)
    | some f => if is_iota e = true then (⟨#[105, 110, 116]⟩, true) else (f, true)
theorem emptyL : ByteArray.toList ⟨#[]⟩ = [] := by rw [ByteArray.toList_eq]
theorem bad_ne {t : ByteArray} (h : badT t = false) : (t.toList == ByteArray.toList ⟨#[]⟩) = false := by
  rw [emptyL]
  cases hh : (t.toList == []) with
  | false => rfl
  | true =>
    rw [beq_iff_eq] at hh
    unfold badT isI isB at h
    rw [hh] at h
    exfalso
    revert h
    simp [ByteArray.toList_eq]
theorem fR_eq (isN : Bool) (e0 : ByteArray) (h0 : badT e0 = false) : ∀ (l : List ByteArray) (i : Nat), fR isN l e0 i = if l.any badT = true then none else if resOk isN e0 l i = true then some e0 else none
  | [], i => by simp [fR, resOk]
  | t :: ts, i => by
    rw [fR, resOk, List.any_cons]
    cases hb : badT t with
    | true => simp
    | false =>
      rw [if_neg (by simp), Bool.false_or]
      cases hn : (isN && ((i : Int) == 1)) with
      | true =>
        rw [if_pos rfl, if_pos rfl]
        cases hI : isI t with
        | true =>
          rw [if_pos rfl, fR_eq isN e0 h0 ts (i + 1)]
          rw [show (t.toList == ByteArray.toList ⟨#[105, 110, 116]⟩) = true from hI, Bool.true_and]
        | false =>
          rw [if_neg (by simp)]
          rw [show (t.toList == ByteArray.toList ⟨#[105, 110, 116]⟩) = false from hI, Bool.false_and]
          simp
      | false =>
        rw [if_neg (by simp), bad_ne h0, Bool.not_false, Bool.true_and, if_neg (show ¬ (false = true) by simp)]
        cases hq : (t.toList == e0.toList) with
        | true =>
          have := eq_of hq
          subst this
          rw [beq_self_eq_true, Bool.not_true, if_neg (by simp), fR_eq isN t h0 ts (i + 1), Bool.true_and]
        | false =>
          rw [show (e0.toList == t.toList) = false from (Bool.beq_comm (a := e0.toList)).trans hq, Bool.not_false, if_pos rfl, Bool.false_and]
          simp
theorem refRes_eq (e : ByteArray) (es : List ByteArray) (hn : es.length ≤ 4096) : refResE e es = resE e es := by
  unfold refResE resE
  have hln := @rks_len e es.length
  cases hr : (rksE e es.length).2 with
  | false => simp
  | true =>
    have hl := hln hr
    have io : is_iota e = (es.length == 0) := by
      cases ho : opOf e with
      | none =>
        have hp : is_pack e = false := op_no ho .pack
        unfold rksE at hr
        rw [ho, hp] at hr
        simp at hr
      | some o =>
        rw [show is_iota e = (ix o == 0) from op_is ho .iota]
        rw [rks_ok ho hn] at hr
        clear hl hln hn
        generalize es.length = n at *
        cases o <;> simp [ix, rk] at hr ⊢ <;> omega
    rw [if_neg (by simp), hl, io]
    cases es with
    | nil => simp [fR]
    | cons e0 r =>
      rw [show ((e0 :: r).length == 0) = false from rfl, show (((e0 :: r).length : Int) == 0) = false from beq_false_of_ne (by simp; omega)]
      simp only [ycS,Bool.false_or,ycN,if_false]
      cases hb : badT e0 with
      | true => simp [fR, hb]
      | false =>
        have h1 : fR (isNm e) (e0 :: r) ⟨#[]⟩ 0 = fR (isNm e) r e0 1 := by
          rw [fR, hb, if_neg (by simp), show (isNm e && (((0 : Nat) : Int) == 1)) = false by simp, if_neg (by simp), beq_self_eq_true, Bool.not_true, Bool.false_and, if_neg (by simp)]
        have h2 : resOk (isNm e) e0 (e0 :: r) 0 = resOk (isNm e) e0 r 1 := by
          rw [resOk, show (isNm e && (((0 : Nat) : Int) == 1)) = false by simp, if_neg (by simp), beq_self_eq_true, Bool.true_and]
        rw [h1, h2, fR_eq (isNm e) e0 hb r 1, List.any_cons, hb, Bool.false_or]
        cases r.any badT <;> cases resOk (isNm e) e0 r 1 <;> simp

set_option maxHeartbeats 8000000 in
theorem refResult_ (e : ByteArray) (es : List ByteArray) (hl : es.length ≤ 4096) : Meets Try.prog 19 [S e, strs es] (resT (resE e es)) := by
  have h1 := refRanks_ e es.length (by omega) (by omega)
  rw [← refRes_eq e es hl]
  unfold refResE
  generalize rksE e es.length = r at *
  obtain ⟨rs, b⟩ := r
  simp only at h1 ⊢
  cases b with
  | false =>
    rw [if_pos rfl]
    refine meets_of (X := false) Ty.mixed Try.func19 (by kernel_rfl) rfl (by kernel_rfl) (by simp) ?_; rw [Try.ntmps19, Try.results19]
    simp only [ydj,ydk,ydp,ydc,ydd,yde,isCallV,callW_is,callV_is,ydl,ydw,ydb,pureOp,apureO,aev,cv,cvc,ydy,lenA,lenK,argT,ycN,↓reduceIte,List.map_cons,List.map_nil,ydQ,ycZ,true_and,reduceCtorEq,Nat.reduceEqDiff,Nat.zero_add,Option.isSome_some,Ty.td34,List.length_map]
    refine call_meets (h1) (by simp only [aev,cv,cvc,ydN,ydz,ydC,ydA] <;> rfl) ?_; simp only [ydj,ydk,ydg,ydH,ydp,ydK,ydc,ydd,yde,ydl,ydw,upd_s,ydb,ydI,pureOp,apureO,killT,aev,cv,cvc,ydy,ydD,flat_c,flat_tup,flat_sl,flatL_nil,flatL_cons,ownsV_c,ownsL_nil,ownsL_cons,ydN,ydJ,ydz,ydC,ydA,notExit,ydE,ydF,ydL,↓reduceIte,ycO,ycP,ydQ,ycX,yda,ycT,Bool.or_true,ycQ,and_true,and_self,Nat.reduceEqDiff,List.isEmpty_nil]
  | true =>
    rw [if_neg (by simp)]
    obtain ⟨isN, hN⟩ : ∃ b, isNm e = b := ⟨_, rfl⟩
    rw [hN]
    have fin : (is_index e = true ∧ isN = true) ∨ (is_index e = false ∧ is_update e = true ∧ isN = true) ∨ (is_index e = false ∧ is_update e = false ∧ isN = false) := by
      rw [← hN]
      unfold isNm
      cases is_index e <;> cases is_update e <;> simp
    refine meets_of (X := false) Ty.mixed Try.func19 (by kernel_rfl) rfl (by kernel_rfl) (by simp) ?_; rw [Try.ntmps19, Try.results19]
    simp only [ydj,ydk,ydp,ydc,ydd,yde,isCallV,callW_is,callV_is,ydl,ydw,ydb,pureOp,apureO,aev,cv,cvc,ydy,lenA,lenK,argT,ycN,↓reduceIte,List.map_cons,List.map_nil,ydQ,ycZ,true_and,reduceCtorEq,Nat.reduceEqDiff,Nat.zero_add,Option.isSome_some,Ty.td34,List.length_map]
    refine call_meets (h1) (by simp only [aev,cv,cvc,ydN,ydz,ydC,ydA] <;> rfl) ?_; simp only [ydi,ydj,ydk,ydg,ydf,awp_loop,ydp,ydc,ydd,yde,ydl,ydw,upd_s,ydb,pureOp,apureO,killT,aev,cv,cvc,ydy,ydq,flat_c,flat_tup,flat_sl,flatL_nil,flatL_cons,ownsV_c,ownsL_nil,ownsL_cons,↓reduceIte,ycO,ycP,ydQ,yda,ycT,Bool.or_true,ycS,and_true,and_self,Nat.reduceEqDiff,List.isEmpty_nil]
    refine loop_k (fun s : Nat × ByteArray => s.1 ≤ es.length ∧ fR isN es ⟨#[]⟩ 0 = fR isN (es.drop s.1) s.2 s.1) (fun s => ⟨69, [(9, I s.1), (8, S s.2), (0, S e), (1, strs es)], []⟩) (fun s => es.length - s.1) (0, ⟨#[]⟩) ⟨Nat.zero_le _, rfl⟩ (by simp only [ydb,aev,cv,cvc,Weak,↓reduceIte,yda,ycT,and_true,and_self,reduceCtorEq,Nat.reduceEqDiff] <;> simp) rfl rfl ?_
    rintro ⟨k, f⟩ ⟨hk, hi⟩ K hK
    simp only at hk hi hK ⊢
    simp only [ydj,ydk,ydg,ydp,ydc,ydd,yde,ydl,ydw,ydb,pureOp,apureO,aev,cv,cvc,binK,ydy,lenA,lenK,↓reduceIte,ycZ,true_and,reduceCtorEq,Nat.reduceEqDiff,Option.isSome_some,Ty.td34,List.length_map]
    refine condA_dec (fun hlt => ?_) (fun hge => ?_)
    · have hlt' : k < es.length := by omega
      have hx : es[k]? = some es[k] := List.getElem?_eq_getElem hlt'
      rw [List.drop_eq_getElem_cons hlt', fR] at hi
      generalize es[k] = x at *
      obtain ⟨q, hq⟩ : ∃ q, ((k : Int) == 1) = q := ⟨_, rfl⟩
      obtain ⟨p1, hp1⟩ : ∃ q, (f.toList == ByteArray.toList ⟨#[]⟩) = q := ⟨_, rfl⟩
      obtain ⟨p2, hp2⟩ : ∃ q, (f.toList == x.toList) = q := ⟨_, rfl⟩
      rw [hq, hp1, hp2] at hi
      have tail : (badT x = false) → (isN && q) = false → fR isN es ⟨#[]⟩ 0 = if (!p1 && !p2) = true then none else fR isN (List.drop (k + 1) es) x (k + 1) := fun h1 h2 => by rw [hi, h1, h2]; simp
      cases hI : isI x with
      | false =>
        cases hB : isB x with
        | false =>
          rw [show badT x = true by unfold badT; rw [hI, hB]; rfl, if_pos rfl] at hi
          rw [hi]
          simp only [ydi,ydj,ydk,ydg,ydf,ydH,ydp,ydK,ydM,ydP,ydc,ydd,ydh,yde,ydr,ydl,ydw,ydb,ydI,pureOp,apureO,aev,cv,cvc,binK,ydy,yds,yieldA,ydm,ydD,ydu,ydN,ydJ,ydz,ydC,ydA,notExit,ydE,ydF,ydL,ycU,ycN,↓reduceIte,ycO,ycP,ycR,ycY,ycX,yda,ycZ,ycT,ycQ,true_and,and_true,and_self,reduceCtorEq,Nat.reduceEqDiff,ycV,Ty.td9,Ty.td34,ycW,hx,hI,hB]
        | true =>
          have hb : badT x = false := by unfold badT; rw [hI, hB]; rfl
          rw [hb, if_neg (by simp), hI] at hi
          rcases fin with ⟨g1, g3⟩ | ⟨g1, g2, g3⟩ | ⟨g1, g2, g3⟩ <;> subst g3 <;> cases q
          · replace hi := tail hb rfl
            clear tail
            cases p1
            · cases p2
              · simp only [ycQ,ycT,if_true] at hi
                rw [hi]
                simp only [ydi,ydj,ydk,ydg,ydf,ydH,ydp,ydK,ydM,ydP,ydc,ydd,ydh,yde,ydr,ydl,ydw,ydb,ydI,pureOp,apureO,aev,cv,cvc,binK,ydy,yds,yieldA,ydm,ydO,ydD,ydq,ydu,ydN,ydJ,ydz,ydC,ydA,notExit,ydE,ydF,ydL,ycU,ycN,↓reduceIte,ycO,ycP,ycR,ycY,ycX,yda,ycZ,ycT,ycS,ycQ,true_and,and_true,and_self,reduceCtorEq,Nat.reduceEqDiff,ycV,Ty.td9,Ty.td34,ycW,hx,hI,hB,hq,hp1,hp2,g1,wrap_in (x := (k : Int) + 1) (by omega) (by omega)]
              · simp only [ycS,ycQ,ydn,ydo,ycN,if_false] at hi
                simp only [ydi,ydj,ydk,ydg,ydf,ydp,ydB,ydG,ydc,ydd,ydh,yde,ydr,ydl,ydw,ydb,pureOp,apureO,aev,cv,cvc,binK,ydy,yds,yieldA,ydm,ydO,ydq,ydu,ycU,ycN,↓reduceIte,ycO,ycP,ycR,ycY,ycX,ycZ,ycS,ycQ,true_and,reduceCtorEq,Nat.reduceEqDiff,ycV,Ty.td9,Ty.td34,ycW,hx,hI,hB,hq,hp1,hp2,g1,wrap_in (x := (k : Int) + 1) (by omega) (by omega)]
                exact hK (k + 1, x) _ ⟨hlt', hi⟩ (by simp only; omega) (by simp only [ydb,aev,cv,cvc,Weak,↓reduceIte,yda,ycT,and_true,and_self,reduceCtorEq,Nat.reduceEqDiff]; simp) rfl rfl
            · simp only [ycS,ycQ,ydn,ydo,ycN,if_false] at hi
              simp only [ydi,ydj,ydk,ydg,ydf,ydp,ydB,ydG,ydc,ydd,ydh,yde,ydr,ydl,ydw,ydb,pureOp,apureO,aev,cv,cvc,binK,ydy,yds,yieldA,ydm,ydt,ydO,ydq,ydu,ydx,ycU,ycN,↓reduceIte,ycO,ycP,ycR,ycY,ycX,ycZ,ycS,ycQ,true_and,reduceCtorEq,Nat.reduceEqDiff,ycV,Ty.td9,Ty.td34,ycW,hx,hI,hB,hq,hp1,hp2,g1,wrap_in (x := (k : Int) + 1) (by omega) (by omega)]
              exact hK (k + 1, x) _ ⟨hlt', hi⟩ (by simp only; omega) (by simp only [ydb,aev,cv,cvc,Weak,↓reduceIte,yda,ycT,and_true,and_self,reduceCtorEq,Nat.reduceEqDiff]; simp) rfl rfl
          · simp only [ycT,if_true,ycN,if_false] at hi
            rw [hi]
            simp only [ydi,ydj,ydk,ydg,ydf,ydH,ydp,ydK,ydM,ydP,ydc,ydd,ydh,yde,ydr,ydl,ydw,ydb,ydI,pureOp,apureO,aev,cv,cvc,binK,ydy,yds,yieldA,ydm,ydO,ydD,ydq,ydu,ydN,ydJ,ydz,ydC,ydA,notExit,ydE,ydF,ydL,ycU,ycN,↓reduceIte,ycO,ycP,ycR,ycY,ycX,yda,ycZ,ycT,ycS,ycQ,true_and,and_true,and_self,reduceCtorEq,Nat.reduceEqDiff,ycV,Ty.td9,Ty.td34,ycW,hx,hI,hB,hq,g1,wrap_in (x := (k : Int) + 1) (by omega) (by omega)]
          · replace hi := tail hb rfl
            clear tail
            cases p1
            · cases p2
              · simp only [ycQ,ycT,if_true] at hi
                rw [hi]
                simp only [ydi,ydj,ydk,ydg,ydf,ydH,ydp,ydK,ydM,ydP,ydc,ydd,ydh,yde,ydr,ydl,ydw,ydb,ydI,pureOp,apureO,aev,cv,cvc,binK,ydy,yds,yieldA,ydm,ydv,ydD,ydq,ydu,ydx,ydN,ydJ,ydz,ydC,ydA,notExit,ydE,ydF,ydL,ycU,ycN,↓reduceIte,ycO,ycP,ycR,ycY,ycX,yda,ycZ,ycT,ycS,ycQ,true_and,and_true,and_self,reduceCtorEq,Nat.reduceEqDiff,ycV,Ty.td9,Ty.td34,ycW,hx,hI,hB,hq,hp1,hp2,g1,g2,wrap_in (x := (k : Int) + 1) (by omega) (by omega)]
              · simp only [ycS,ycQ,ydn,ydo,ycN,if_false] at hi
                simp only [ydi,ydj,ydk,ydg,ydf,ydp,ydB,ydG,ydc,ydd,ydh,yde,ydr,ydl,ydw,ydb,pureOp,apureO,aev,cv,cvc,binK,ydy,yds,yieldA,ydm,ydv,ydq,ydu,ydx,ycU,ycN,↓reduceIte,ycO,ycP,ycR,ycY,ycX,ycZ,ycS,ycQ,true_and,reduceCtorEq,Nat.reduceEqDiff,ycV,Ty.td9,Ty.td34,ycW,hx,hI,hB,hq,hp1,hp2,g1,g2,wrap_in (x := (k : Int) + 1) (by omega) (by omega)]
                exact hK (k + 1, x) _ ⟨hlt', hi⟩ (by simp only; omega) (by simp only [ydb,aev,cv,cvc,Weak,↓reduceIte,yda,ycT,and_true,and_self,reduceCtorEq,Nat.reduceEqDiff]; simp) rfl rfl
            · simp only [ycS,ycQ,ydn,ydo,ycN,if_false] at hi
              simp only [ydi,ydj,ydk,ydg,ydf,ydp,ydB,ydG,ydc,ydd,ydh,yde,ydr,ydl,ydw,ydb,pureOp,apureO,aev,cv,cvc,binK,ydy,yds,yieldA,ydm,ydt,ydv,ydq,ydu,ydx,ycU,ycN,↓reduceIte,ycO,ycP,ycR,ycY,ycX,ycZ,ycS,ycQ,true_and,reduceCtorEq,Nat.reduceEqDiff,ycV,Ty.td9,Ty.td34,ycW,hx,hI,hB,hq,hp1,hp2,g1,g2,wrap_in (x := (k : Int) + 1) (by omega) (by omega)]
              exact hK (k + 1, x) _ ⟨hlt', hi⟩ (by simp only; omega) (by simp only [ydb,aev,cv,cvc,Weak,↓reduceIte,yda,ycT,and_true,and_self,reduceCtorEq,Nat.reduceEqDiff]; simp) rfl rfl
          · simp only [ycT,if_true,ycN,if_false] at hi
            rw [hi]
            simp only [ydi,ydj,ydk,ydg,ydf,ydH,ydp,ydK,ydM,ydP,ydc,ydd,ydh,yde,ydr,ydl,ydw,ydb,ydI,pureOp,apureO,aev,cv,cvc,binK,ydy,yds,yieldA,ydm,ydv,ydD,ydq,ydu,ydx,ydN,ydJ,ydz,ydC,ydA,notExit,ydE,ydF,ydL,ycU,ycN,↓reduceIte,ycO,ycP,ycR,ycY,ycX,yda,ycZ,ycT,ycS,ycQ,true_and,and_true,and_self,reduceCtorEq,Nat.reduceEqDiff,ycV,Ty.td9,Ty.td34,ycW,hx,hI,hB,hq,g1,g2,wrap_in (x := (k : Int) + 1) (by omega) (by omega)]
          · replace hi := tail hb rfl
            clear tail
            cases p1
            · cases p2
              · simp only [ycQ,ycT,if_true] at hi
                rw [hi]
                simp only [ydi,ydj,ydk,ydg,ydf,ydH,ydp,ydK,ydM,ydP,ydc,ydd,ydh,yde,ydr,ydl,ydw,ydb,ydI,pureOp,apureO,aev,cv,cvc,binK,ydy,yds,yieldA,ydm,ydt,ydv,ydD,ydq,ydu,ydx,ydN,ydJ,ydz,ydC,ydA,notExit,ydE,ydF,ydL,ycU,ycN,↓reduceIte,ycO,ycP,ycR,ycY,ycX,yda,ycZ,ycT,ycS,ycQ,true_and,and_true,and_self,reduceCtorEq,Nat.reduceEqDiff,ycV,Ty.td9,Ty.td34,ycW,hx,hI,hB,hq,hp1,hp2,g1,g2,wrap_in (x := (k : Int) + 1) (by omega) (by omega)]
              · simp only [ycS,ycQ,ydn,ydo,ycN,if_false] at hi
                simp only [ydi,ydj,ydk,ydg,ydf,ydp,ydB,ydG,ydc,ydd,ydh,yde,ydr,ydl,ydw,ydb,pureOp,apureO,aev,cv,cvc,binK,ydy,yds,yieldA,ydm,ydt,ydv,ydq,ydu,ydx,ycU,ycN,↓reduceIte,ycO,ycP,ycR,ycY,ycX,ycZ,ycS,ycQ,true_and,reduceCtorEq,Nat.reduceEqDiff,ycV,Ty.td9,Ty.td34,ycW,hx,hI,hB,hq,hp1,hp2,g1,g2,wrap_in (x := (k : Int) + 1) (by omega) (by omega)]
                exact hK (k + 1, x) _ ⟨hlt', hi⟩ (by simp only; omega) (by simp only [ydb,aev,cv,cvc,Weak,↓reduceIte,yda,ycT,and_true,and_self,reduceCtorEq,Nat.reduceEqDiff]; simp) rfl rfl
            · simp only [ycS,ycQ,ydn,ydo,ycN,if_false] at hi
              simp only [ydi,ydj,ydk,ydg,ydf,ydp,ydB,ydG,ydc,ydd,ydh,yde,ydr,ydl,ydw,ydb,pureOp,apureO,aev,cv,cvc,binK,ydy,yds,yieldA,ydm,ydt,ydv,ydq,ydu,ydx,ycU,ycN,↓reduceIte,ycO,ycP,ycR,ycY,ycX,ycZ,ycS,ycQ,true_and,reduceCtorEq,Nat.reduceEqDiff,ycV,Ty.td9,Ty.td34,ycW,hx,hI,hB,hq,hp1,hp2,g1,g2,wrap_in (x := (k : Int) + 1) (by omega) (by omega)]
              exact hK (k + 1, x) _ ⟨hlt', hi⟩ (by simp only; omega) (by simp only [ydb,aev,cv,cvc,Weak,↓reduceIte,yda,ycT,and_true,and_self,reduceCtorEq,Nat.reduceEqDiff]; simp) rfl rfl
          · replace hi := tail hb rfl
            clear tail
            cases p1
            · cases p2
              · simp only [ycQ,ycT,if_true] at hi
                rw [hi]
                simp only [ydi,ydj,ydk,ydg,ydf,ydH,ydp,ydK,ydM,ydP,ydc,ydd,ydh,yde,ydr,ydl,ydw,ydb,ydI,pureOp,apureO,aev,cv,cvc,binK,ydy,yds,yieldA,ydm,ydt,ydv,ydD,ydq,ydu,ydx,ydN,ydJ,ydz,ydC,ydA,notExit,ydE,ydF,ydL,ycU,ycN,↓reduceIte,ycO,ycP,ycR,ycY,ycX,yda,ycZ,ycT,ycS,ycQ,true_and,and_true,and_self,reduceCtorEq,Nat.reduceEqDiff,ycV,Ty.td9,Ty.td34,ycW,hx,hI,hB,hq,hp1,hp2,g1,g2,wrap_in (x := (k : Int) + 1) (by omega) (by omega)]
              · simp only [ycS,ycQ,ydn,ydo,ycN,if_false] at hi
                simp only [ydi,ydj,ydk,ydg,ydf,ydp,ydB,ydG,ydc,ydd,ydh,yde,ydr,ydl,ydw,ydb,pureOp,apureO,aev,cv,cvc,binK,ydy,yds,yieldA,ydm,ydt,ydv,ydq,ydu,ydx,ycU,ycN,↓reduceIte,ycO,ycP,ycR,ycY,ycX,ycZ,ycS,ycQ,true_and,reduceCtorEq,Nat.reduceEqDiff,ycV,Ty.td9,Ty.td34,ycW,hx,hI,hB,hq,hp1,hp2,g1,g2,wrap_in (x := (k : Int) + 1) (by omega) (by omega)]
                exact hK (k + 1, x) _ ⟨hlt', hi⟩ (by simp only; omega) (by simp only [ydb,aev,cv,cvc,Weak,↓reduceIte,yda,ycT,and_true,and_self,reduceCtorEq,Nat.reduceEqDiff]; simp) rfl rfl
            · simp only [ycS,ycQ,ydn,ydo,ycN,if_false] at hi
              simp only [ydi,ydj,ydk,ydg,ydf,ydp,ydB,ydG,ydc,ydd,ydh,yde,ydr,ydl,ydw,ydb,pureOp,apureO,aev,cv,cvc,binK,ydy,yds,yieldA,ydm,ydt,ydv,ydq,ydu,ydx,ycU,ycN,↓reduceIte,ycO,ycP,ycR,ycY,ycX,ycZ,ycS,ycQ,true_and,reduceCtorEq,Nat.reduceEqDiff,ycV,Ty.td9,Ty.td34,ycW,hx,hI,hB,hq,hp1,hp2,g1,g2,wrap_in (x := (k : Int) + 1) (by omega) (by omega)]
              exact hK (k + 1, x) _ ⟨hlt', hi⟩ (by simp only; omega) (by simp only [ydb,aev,cv,cvc,Weak,↓reduceIte,yda,ycT,and_true,and_self,reduceCtorEq,Nat.reduceEqDiff]; simp) rfl rfl
      | true =>
        have hb : badT x = false := by unfold badT; rw [hI]; rfl
        rw [hb, if_neg (by simp), hI] at hi
        rcases fin with ⟨g1, g3⟩ | ⟨g1, g2, g3⟩ | ⟨g1, g2, g3⟩ <;> subst g3 <;> cases q
        · replace hi := tail hb rfl
          clear tail
          cases p1
          · cases p2
            · simp only [ycQ,ycT,if_true] at hi
              rw [hi]
              simp only [ydi,ydj,ydk,ydg,ydf,ydH,ydp,ydK,ydM,ydP,ydc,ydd,ydh,yde,ydr,ydl,ydw,ydb,ydI,pureOp,apureO,aev,cv,cvc,binK,ydy,yds,yieldA,ydm,ydt,ydO,ydD,ydq,ydu,ydx,ydN,ydJ,ydz,ydC,ydA,notExit,ydE,ydF,ydL,ycU,ycN,↓reduceIte,ycO,ycP,ycR,ycY,ycX,yda,ycZ,ycT,ycS,ycQ,true_and,and_true,and_self,reduceCtorEq,Nat.reduceEqDiff,ycV,Ty.td9,Ty.td34,ycW,hx,hI,hq,hp1,hp2,g1,wrap_in (x := (k : Int) + 1) (by omega) (by omega)]
            · simp only [ycS,ycQ,ydn,ydo,ycN,if_false] at hi
              simp only [ydi,ydj,ydk,ydg,ydf,ydp,ydB,ydG,ydc,ydd,ydh,yde,ydr,ydl,ydw,ydb,pureOp,apureO,aev,cv,cvc,binK,ydy,yds,yieldA,ydm,ydt,ydO,ydq,ydu,ydx,ycU,ycN,↓reduceIte,ycO,ycP,ycR,ycY,ycX,ycZ,ycS,ycQ,true_and,reduceCtorEq,Nat.reduceEqDiff,ycV,Ty.td9,Ty.td34,ycW,hx,hI,hq,hp1,hp2,g1,wrap_in (x := (k : Int) + 1) (by omega) (by omega)]
              exact hK (k + 1, x) _ ⟨hlt', hi⟩ (by simp only; omega) (by simp only [ydb,aev,cv,cvc,Weak,↓reduceIte,yda,ycT,and_true,and_self,reduceCtorEq,Nat.reduceEqDiff]; simp) rfl rfl
          · simp only [ycS,ycQ,ydn,ydo,ycN,if_false] at hi
            simp only [ydi,ydj,ydk,ydg,ydf,ydp,ydB,ydG,ydc,ydd,ydh,yde,ydr,ydl,ydw,ydb,pureOp,apureO,aev,cv,cvc,binK,ydy,yds,yieldA,ydm,ydt,ydO,ydq,ydu,ydx,ycU,ycN,↓reduceIte,ycO,ycP,ycR,ycY,ycX,ycZ,ycS,true_and,reduceCtorEq,Nat.reduceEqDiff,ycV,Ty.td9,Ty.td34,ycW,hx,hI,hq,hp1,hp2,g1,wrap_in (x := (k : Int) + 1) (by omega) (by omega)]
            exact hK (k + 1, x) _ ⟨hlt', hi⟩ (by simp only; omega) (by simp only [ydb,aev,cv,cvc,Weak,↓reduceIte,yda,ycT,and_true,and_self,reduceCtorEq,Nat.reduceEqDiff]; simp) rfl rfl
        · simp only [ycT,if_true] at hi
          simp only [ydi,ydj,ydk,ydg,ydf,awp_exit,ydp,seqQ_e,ydB,blkQ_e,ydc,ydd,ydh,yde,ydr,ydl,ydw,ydb,pureOp,apureO,aev,cv,cvc,binK,ydy,yds,yieldA,ydm,ydt,ydO,ydD,ydq,ydu,ydx,ycU,ycN,↓reduceIte,ycO,ycP,ycR,ycY,ycX,ycZ,ycS,true_and,reduceCtorEq,Nat.reduceEqDiff,ycV,Ty.td9,Ty.td34,ycW,hx,hI,hq,g1,wrap_in (x := (k : Int) + 1) (by omega) (by omega)]
          exact hK (k + 1, f) _ ⟨hlt', hi⟩ (by simp only; omega) (by simp only [ydb,aev,cv,cvc,Weak,↓reduceIte,yda,ycT,and_true,and_self,reduceCtorEq,Nat.reduceEqDiff]; simp) rfl rfl
        · replace hi := tail hb rfl
          clear tail
          cases p1
          · cases p2
            · simp only [ycQ,ycT,if_true] at hi
              rw [hi]
              simp only [ydi,ydj,ydk,ydg,ydf,ydH,ydp,ydK,ydM,ydP,ydc,ydd,ydh,yde,ydr,ydl,ydw,ydb,ydI,pureOp,apureO,aev,cv,cvc,binK,ydy,yds,yieldA,ydm,ydt,ydv,ydD,ydq,ydu,ydx,ydN,ydJ,ydz,ydC,ydA,notExit,ydE,ydF,ydL,ycU,ycN,↓reduceIte,ycO,ycP,ycR,ycY,ycX,yda,ycZ,ycT,ycS,ycQ,true_and,and_true,and_self,reduceCtorEq,Nat.reduceEqDiff,ycV,Ty.td9,Ty.td34,ycW,hx,hI,hq,hp1,hp2,g1,g2,wrap_in (x := (k : Int) + 1) (by omega) (by omega)]
            · simp only [ycS,ycQ,ydn,ydo,ycN,if_false] at hi
              simp only [ydi,ydj,ydk,ydg,ydf,ydp,ydB,ydG,ydc,ydd,ydh,yde,ydr,ydl,ydw,ydb,pureOp,apureO,aev,cv,cvc,binK,ydy,yds,yieldA,ydm,ydt,ydv,ydq,ydu,ydx,ycU,ycN,↓reduceIte,ycO,ycP,ycR,ycY,ycX,ycZ,ycS,ycQ,true_and,reduceCtorEq,Nat.reduceEqDiff,ycV,Ty.td9,Ty.td34,ycW,hx,hI,hq,hp1,hp2,g1,g2,wrap_in (x := (k : Int) + 1) (by omega) (by omega)]
              exact hK (k + 1, x) _ ⟨hlt', hi⟩ (by simp only; omega) (by simp only [ydb,aev,cv,cvc,Weak,↓reduceIte,yda,ycT,and_true,and_self,reduceCtorEq,Nat.reduceEqDiff]; simp) rfl rfl
          · simp only [ycS,ycQ,ydn,ydo,ycN,if_false] at hi
            simp only [ydi,ydj,ydk,ydg,ydf,ydp,ydB,ydG,ydc,ydd,ydh,yde,ydr,ydl,ydw,ydb,pureOp,apureO,aev,cv,cvc,binK,ydy,yds,yieldA,ydm,ydt,ydv,ydq,ydu,ydx,ycU,ycN,↓reduceIte,ycO,ycP,ycR,ycY,ycX,ycZ,ycS,true_and,reduceCtorEq,Nat.reduceEqDiff,ycV,Ty.td9,Ty.td34,ycW,hx,hI,hq,hp1,hp2,g1,g2,wrap_in (x := (k : Int) + 1) (by omega) (by omega)]
            exact hK (k + 1, x) _ ⟨hlt', hi⟩ (by simp only; omega) (by simp only [ydb,aev,cv,cvc,Weak,↓reduceIte,yda,ycT,and_true,and_self,reduceCtorEq,Nat.reduceEqDiff]; simp) rfl rfl
        · simp only [ycT,if_true] at hi
          simp only [ydi,ydj,ydk,ydg,ydf,awp_exit,ydp,seqQ_e,ydB,blkQ_e,ydc,ydd,ydh,yde,ydr,ydl,ydw,ydb,pureOp,apureO,aev,cv,cvc,binK,ydy,yds,yieldA,ydm,ydt,ydv,ydD,ydq,ydu,ydx,ycU,ycN,↓reduceIte,ycO,ycP,ycR,ycY,ycX,ycZ,ycS,true_and,reduceCtorEq,Nat.reduceEqDiff,ycV,Ty.td9,Ty.td34,ycW,hx,hI,hq,g1,g2,wrap_in (x := (k : Int) + 1) (by omega) (by omega)]
          exact hK (k + 1, f) _ ⟨hlt', hi⟩ (by simp only; omega) (by simp only [ydb,aev,cv,cvc,Weak,↓reduceIte,yda,ycT,and_true,and_self,reduceCtorEq,Nat.reduceEqDiff]; simp) rfl rfl
        · replace hi := tail hb rfl
          clear tail
          cases p1
          · cases p2
            · simp only [ycQ,ycT,if_true] at hi
              rw [hi]
              simp only [ydi,ydj,ydk,ydg,ydf,ydH,ydp,ydK,ydM,ydP,ydc,ydd,ydh,yde,ydr,ydl,ydw,ydb,ydI,pureOp,apureO,aev,cv,cvc,binK,ydy,yds,yieldA,ydm,ydt,ydv,ydD,ydq,ydu,ydx,ydN,ydJ,ydz,ydC,ydA,notExit,ydE,ydF,ydL,ycU,ycN,↓reduceIte,ycO,ycP,ycR,ycY,ycX,yda,ycZ,ycT,ycS,ycQ,true_and,and_true,and_self,reduceCtorEq,Nat.reduceEqDiff,ycV,Ty.td9,Ty.td34,ycW,hx,hI,hq,hp1,hp2,g1,g2,wrap_in (x := (k : Int) + 1) (by omega) (by omega)]
            · simp only [ycS,ycQ,ydn,ydo,ycN,if_false] at hi
              simp only [ydi,ydj,ydk,ydg,ydf,ydp,ydB,ydG,ydc,ydd,ydh,yde,ydr,ydl,ydw,ydb,pureOp,apureO,aev,cv,cvc,binK,ydy,yds,yieldA,ydm,ydt,ydv,ydq,ydu,ydx,ycU,ycN,↓reduceIte,ycO,ycP,ycR,ycY,ycX,ycZ,ycS,ycQ,true_and,reduceCtorEq,Nat.reduceEqDiff,ycV,Ty.td9,Ty.td34,ycW,hx,hI,hq,hp1,hp2,g1,g2,wrap_in (x := (k : Int) + 1) (by omega) (by omega)]
              exact hK (k + 1, x) _ ⟨hlt', hi⟩ (by simp only; omega) (by simp only [ydb,aev,cv,cvc,Weak,↓reduceIte,yda,ycT,and_true,and_self,reduceCtorEq,Nat.reduceEqDiff]; simp) rfl rfl
          · simp only [ycS,ycQ,ydn,ydo,ycN,if_false] at hi
            simp only [ydi,ydj,ydk,ydg,ydf,ydp,ydB,ydG,ydc,ydd,ydh,yde,ydr,ydl,ydw,ydb,pureOp,apureO,aev,cv,cvc,binK,ydy,yds,yieldA,ydt,ydv,ydq,ydx,ycU,ycN,↓reduceIte,ycO,ycP,ycR,ycY,ycX,ycZ,ycS,true_and,reduceCtorEq,Nat.reduceEqDiff,ycV,Ty.td9,Ty.td34,ycW,hx,hI,hq,hp1,hp2,g1,g2,wrap_in (x := (k : Int) + 1) (by omega) (by omega)]
            exact hK (k + 1, x) _ ⟨hlt', hi⟩ (by simp only; omega) (by simp only [ydb,aev,cv,cvc,Weak,↓reduceIte,yda,ycT,and_true,and_self,reduceCtorEq,Nat.reduceEqDiff]; simp) rfl rfl
        · replace hi := tail hb rfl
          clear tail
          cases p1
          · cases p2
            · simp only [ycQ,ycT,if_true] at hi
              rw [hi]
              simp only [ydi,ydj,ydk,ydg,ydf,ydH,ydp,ydK,ydM,ydP,ydc,ydd,ydh,yde,ydr,ydl,ydw,ydb,ydI,pureOp,apureO,aev,cv,cvc,binK,ydy,yds,yieldA,ydm,ydt,ydv,ydD,ydq,ydu,ydx,ydN,ydJ,ydz,ydC,ydA,notExit,ydE,ydF,ydL,ycU,ycN,↓reduceIte,ycO,ycP,ycR,ycY,ycX,yda,ycZ,ycT,ycS,ycQ,true_and,and_true,and_self,reduceCtorEq,Nat.reduceEqDiff,ycV,Ty.td9,Ty.td34,ycW,hx,hI,hq,hp1,hp2,g1,g2,wrap_in (x := (k : Int) + 1) (by omega) (by omega)]
            · simp only [ycS,ycQ,ydn,ydo,ycN,if_false] at hi
              simp only [ydi,ydj,ydk,ydg,ydf,ydp,ydB,ydG,ydc,ydd,ydh,yde,ydr,ydl,ydw,ydb,pureOp,apureO,aev,cv,cvc,binK,ydy,yds,yieldA,ydm,ydt,ydv,ydq,ydu,ydx,ycU,ycN,↓reduceIte,ycO,ycP,ycR,ycY,ycX,ycZ,ycS,ycQ,true_and,reduceCtorEq,Nat.reduceEqDiff,ycV,Ty.td9,Ty.td34,ycW,hx,hI,hq,hp1,hp2,g1,g2,wrap_in (x := (k : Int) + 1) (by omega) (by omega)]
              exact hK (k + 1, x) _ ⟨hlt', hi⟩ (by simp only; omega) (by simp only [ydb,aev,cv,cvc,Weak,↓reduceIte,yda,ycT,and_true,and_self,reduceCtorEq,Nat.reduceEqDiff]; simp) rfl rfl
          · simp only [ycS,ycQ,ydn,ydo,ycN,if_false] at hi
            simp only [ydi,ydj,ydk,ydg,ydf,ydp,ydB,ydG,ydc,ydd,ydh,yde,ydr,ydl,ydw,ydb,pureOp,apureO,aev,cv,cvc,binK,ydy,yds,yieldA,ydt,ydv,ydq,ydx,ycU,ycN,↓reduceIte,ycO,ycP,ycR,ycY,ycX,ycZ,ycS,true_and,reduceCtorEq,Nat.reduceEqDiff,ycV,Ty.td9,Ty.td34,ycW,hx,hI,hq,hp1,hp2,g1,g2,wrap_in (x := (k : Int) + 1) (by omega) (by omega)]
            exact hK (k + 1, x) _ ⟨hlt', hi⟩ (by simp only; omega) (by simp only [ydb,aev,cv,cvc,Weak,↓reduceIte,yda,ycT,and_true,and_self,reduceCtorEq,Nat.reduceEqDiff]; simp) rfl rfl
    · have hk' : k = es.length := by omega
      subst hk'
      rw [List.drop_length, fR] at hi
      rw [hi]
      simp only
      cases hi0 : is_iota e <;> simp only [ydi,ydj,ydk,ydg,awp_exit,ydH,ydp,ydK,seqQ_e,loopQ_e,blkQ_e,ydc,ydd,yde,ydl,ydw,ydb,ydI,pureOp,apureO,aev,cv,cvc,binK,ydD,ydq,ydN,ydJ,ydz,ydC,ydA,notExit,ydE,ydF,ydL,ycN,↓reduceIte,ycX,ycT,and_self,reduceCtorEq,Nat.reduceEqDiff,hi0] <;> simp
end Go.Proofs.Ytbmmemglkjeogaa.S31
