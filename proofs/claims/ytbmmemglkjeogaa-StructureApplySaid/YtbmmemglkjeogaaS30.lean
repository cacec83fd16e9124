/- Structure: names and forms in the reference. -/
import Derived.Test.YtbmmemglkjeogaaS29
namespace Go.Proofs.Ytbmmemglkjeogaa.S30
open Go Go.Proofs.Ytbmmemglkjeogaa.Eng Go.Proofs.Ytbmmemglkjeogaa Go.RowKit Go.Proofs.Ytbmmemglkjeogaa.A1 Go.Proofs.Ytbmmemglkjeogaa.A2 Go.Proofs.Ytbmmemglkjeogaa.A3 Go.Proofs.Ytbmmemglkjeogaa.A4 Go.Proofs.Ytbmmemglkjeogaa.A5 Go.Proofs.Ytbmmemglkjeogaa.S1 Go.Proofs.Ytbmmemglkjeogaa.S2 Go.Proofs.Ytbmmemglkjeogaa.S3 Go.Proofs.Ytbmmemglkjeogaa.S4 Go.Proofs.Ytbmmemglkjeogaa.S5 Go.Proofs.Ytbmmemglkjeogaa.S6 Go.Proofs.Ytbmmemglkjeogaa.S7 Go.Proofs.Ytbmmemglkjeogaa.S8 Go.Proofs.Ytbmmemglkjeogaa.S9 Go.Proofs.Ytbmmemglkjeogaa.S13 Go.Proofs.Ytbmmemglkjeogaa.S14 Go.Proofs.Ytbmmemglkjeogaa.S29
open Bool renaming false_eq_true → ycN, or_true → ycX, not_true → ydg, true_and → ydh, and_self → ydp, and_true → ydt, not_false → ydz, false_and → ydM
open List renaming append_nil → ycO, isEmpty_nil → ycR, map_cons → ycU, map_nil → ycW, getElem?_cons_zero → yde, getElem?_cons_succ → ydr, getElem?_toArray → yds, length_map → ydA, getElem?_map → ydS
open Go.Proofs.Ytbmmemglkjeogaa.Eng renaming awpOps_one → ycP, awpOps_nil → ycQ, awpOp_is → ycT, slot_is → ycV, putK_is → ycY, awp_reg → ycZ, awp_seq → yda, seqQ_n → ydb, consO_some → ydc, ownsL_cons → ydd, ownsL_nil → ydf, toDL_cons → ydi, awp_cond → ydj, put_s → ydk, callW_is → ydl, callV_is → ydm, toDL_nil → ydn, toD_c → ydo, ownsV_c → ydq, flat_c → ydu, awp_skip → ydv, upd_s → ydw, condA_f → ydB, resA_nil → ydC, resA_tmp → ydD, awp_ret → ydE, retA_is → ydF, oneA_1 → ydG, flatL_cons → ydH, condA_t → ydI, awpOps_if → ydJ, flatL_nil → ydK, flat_sl → ydL, elO_s → ydN, flat_tup → ydO, guardA_ff → ydQ, pickA_t → ydU, awpO_is → ydV, pickA_f → ydW, awp_block → ydX, seqQ_r → ydY
open Option renaming isSome_some → ycS, bind_some → ydx, map_some → ydT
open Nat renaming zero_add → ydy
open Int renaming natCast_nonneg → ydP, toNat_natCast → ydR
set_option linter.unusedSimpArgs false
set_option linter.unusedVariables false
set_option linter.unusedSectionVars false
set_option maxRecDepth 100000

theorem indexS (v : ByteArray) (l : List ByteArray) (hl : l.length ≤ 1000000) : Meets Try.prog 84 [strs l, S v] (I (idxG (fun x => v.toList == x.toList) l 0)) := by
  generalize hp : (fun x : ByteArray => v.toList == x.toList) = p
  refine meets_of (X := false) Ty.mixed Try.func84 (by kernel_rfl) rfl (by kernel_rfl) (by simp) ?_; rw [Try.ntmps84, Try.results84]
  simp only [ycZ,yda,ydX,awp_loop,ydb,ycQ,ycP,ycT,ycY,ydk,ycV,pureOp,apureO,aev,cv,cvc,ydN,lenA,lenK,argT,↓reduceIte,ydh,true_and,reduceCtorEq,ydy,ycS,Ty.td34,ydA]
  refine loop_k (fun k : Nat => k ≤ l.length ∧ idxG p l 0 = idxG p (l.drop k) k) (fun k => ⟨19, [(8, I k), (7, I l.length), (0, strs l), (1, S v)], []⟩) (fun k => l.length - k) 0 ⟨Nat.zero_le _, rfl⟩ (by simp only [ycV,aev,cv,cvc,Weak,↓reduceIte,ydt,ydp,and_true,and_self,reduceCtorEq,Nat.reduceEqDiff]; simp) rfl rfl ?_
  rintro k ⟨hk, hi⟩ K hK
  simp only [ycZ,yda,ydj,ydb,ycQ,ycP,ycT,ycY,ydk,ycV,pureOp,apureO,aev,cv,cvc,binK,↓reduceIte,ydh,true_and,Nat.reduceEqDiff]
  refine condA_dec (fun hlt => ?_) (fun hge => ?_)
  · have hlt' : k < l.length := by omega
    have hx : l[k]? = some l[k] := List.getElem?_eq_getElem hlt'
    rw [List.drop_eq_getElem_cons hlt', idxG] at hi
    generalize l[k] = x at *
    have hpx : p x = (v.toList == x.toList) := by rw [← hp]
    cases hb : (v.toList == x.toList)
    · rw [hpx, hb] at hi
      simp only [ydv,ycZ,yda,ydj,ydX,ydb,loopQ_n,blkQ_n,ycQ,ycP,ycT,ycY,ydk,ycV,pureOp,apureO,aev,cv,cvc,binK,ydN,loadA_d,ydB,ydP,ycN,↓reduceIte,yde,ydT,ydh,true_and,reduceCtorEq,Nat.reduceEqDiff,ydR,Ty.td9,Ty.td34,ydS,hx,hb,wrap_in (x := (k : Int) + 1) (by omega) (by omega)]
      refine hK (k + 1) _ ⟨hlt', by simpa using hi⟩ (by omega) ?_ rfl rfl
      simp only [ycV,aev,cv,cvc,Weak,↓reduceIte,ydt,ydp,and_true,and_self,reduceCtorEq,Nat.reduceEqDiff]
      simp
    · rw [hpx, hb] at hi
      simp only [ydv,ycZ,yda,ydj,ydX,ydE,ydb,ydY,loopQ_r,blkQ_r,ycQ,ycP,ycT,ycY,ydk,ycV,ydF,pureOp,apureO,aev,cv,cvc,binK,ydN,loadA_d,ydI,ydo,notExit,ydC,ydD,ydG,ydP,ycN,↓reduceIte,yde,ydT,ydh,true_and,reduceCtorEq,Nat.reduceEqDiff,ydR,Ty.td9,Ty.td34,ydS,hx,hb]
      simp [hi]
  · have hk' : k = l.length := by omega
    simp only [ycZ,yda,awp_exit,ydE,ydb,seqQ_e,loopQ_e,blkQ_e,ycQ,ycP,ycT,ycY,ydk,ycV,ydF,pureOp,apureO,aev,cv,cvc,ydo,notExit,ydC,ydD,ydG,↓reduceIte,ydh,true_and]
    rw [hi, hk']
    simp [idxG]
theorem containsS (v : ByteArray) (l : List ByteArray) (hl : l.length ≤ 1000000) : Meets Try.prog 51 [strs l, S v] (B (l.any fun x => v.toList == x.toList)) := by
  have h := indexS v l hl
  refine meets_of (X := false) Ty.mixed Try.func51 (by kernel_rfl) rfl (by kernel_rfl) (by simp) ?_; rw [Try.ntmps51, Try.results51]
  simp only [ycZ,yda,ydb,ycQ,ycP,ycT,isCallV,ydl,ydm,ycY,ydk,ycV,pureOp,apureO,aev,cv,cvc,argT,ycN,↓reduceIte,ycU,ycW,ycO,reduceCtorEq,Nat.reduceEqDiff,ydy]
  refine call_meets (h) (by simp only [aev,cv,cvc,ydo,toD_sl,ydc,ydn,ydi] <;> rfl) ?_; simp only [ydE,ydb,ycQ,ycP,ycT,ycY,ydk,ydw,ycV,ydF,pureOp,apureO,killT,aev,cv,cvc,binK,ydu,ydq,ownsV_sl,ydf,ydd,ydo,notExit,ydC,ydD,ydG,↓reduceIte,ycO,ydp,ycX,and_self,ycR,idxG_any]

theorem opsL_any (e : ByteArray) : (opsL.any fun x => e.toList == x.toList) = (opOf e).isSome := by
  show (is_iota e || (is_fill e || (is_take e || (is_drop e || (is_reverse e || (is_append e || (is_transpose e || (is_diagonal e || (is_windows e || (is_chunk e || (is_index e || (is_update e || (is_pack e || false))))))))))))) = _
  cases ho : opOf e with
  | none =>
    have T := op_no ho
    rw [show is_iota e = false from T .iota, show is_fill e = false from T .fill, show is_take e = false from T .take, show is_drop e = false from T .drop, show is_reverse e = false from T .reverse, show is_append e = false from T .append, show is_transpose e = false from T .transpose, show is_diagonal e = false from T .diagonal, show is_windows e = false from T .windows, show is_chunk e = false from T .chunk, show is_index e = false from T .index, show is_update e = false from T .update, show is_pack e = false from T .pack]
    rfl
  | some o =>
    have T := op_is ho
    rw [show is_iota e = (ix o == 0) from T .iota, show is_fill e = (ix o == 1) from T .fill, show is_take e = (ix o == 2) from T .take, show is_drop e = (ix o == 3) from T .drop, show is_reverse e = (ix o == 4) from T .reverse, show is_append e = (ix o == 5) from T .append, show is_transpose e = (ix o == 6) from T .transpose, show is_diagonal e = (ix o == 7) from T .diagonal, show is_windows e = (ix o == 8) from T .windows, show is_chunk e = (ix o == 9) from T .chunk, show is_index e = (ix o == 10) from T .index, show is_update e = (ix o == 11) from T .update, show is_pack e = (ix o == 12) from T .pack]
    cases o <;> rfl
theorem is_ (e : ByteArray) : Meets Try.prog 21 [S e] (B (opOf e).isSome) := by
  have h1 := ops_
  have h2 := containsS e opsL (by decide)
  rw [opsL_any] at h2
  refine meets_of (X := false) Ty.mixed Try.func21 (by kernel_rfl) rfl (by kernel_rfl) (by simp) ?_; rw [Try.ntmps21, Try.results21]
  simp only [ycZ,yda,ydb,ycQ,ycP,ycT,isCallV,ydl,ydm,ycY,ydk,pureOp,apureO,aev,cv,cvc,argT,ycN,↓reduceIte,ycW,ycO]
  refine call_meets (h1) (by simp only [aev,cv,cvc,ydn] <;> rfl) ?_; simp only [ycP,ycT,isCallV,ydl,ydm,ycY,ydk,ydw,ycV,pureOp,apureO,killT,aev,cv,cvc,ydL,ydf,ycN,↓reduceIte,ycU,ycW,ycO,ycX,reduceCtorEq,Nat.reduceEqDiff,ycR]
  refine call_meets (h2) (by simp only [aev,cv,cvc,ydo,toD_sl,ydc,ydn,ydi] <;> rfl) ?_; simp only [ydE,ydb,ycQ,ycP,ycT,ycY,ydk,ydw,ycV,ydF,pureOp,apureO,killT,aev,cv,cvc,ydu,ydq,ownsV_sl,ydf,ydd,ydo,notExit,ydC,ydD,ydG,↓reduceIte,ycO,ydp,ycX,and_self,ycR]
theorem refIs_ (e : ByteArray) : Meets Try.prog 22 [S e] (B (opOf e).isSome) := by
  have h1 := refOps_
  rw [← opsL_any]
  have hl : opsL.length ≤ 1000000 := by decide
  generalize opsL = l at *
  refine meets_of (X := false) Ty.mixed Try.func22 (by kernel_rfl) rfl (by kernel_rfl) (by simp) ?_; rw [Try.ntmps22, Try.results22]
  simp only [ycZ,yda,ydb,ycQ,ycP,ycT,isCallV,ydl,ydm,ycY,ydk,pureOp,apureO,aev,cv,cvc,argT,ycN,↓reduceIte,ycW,ycO]
  refine call_meets (h1) (by simp only [aev,cv,cvc,ydn] <;> rfl) ?_; simp only [ycZ,yda,ydX,awp_loop,ydb,ycQ,ycP,ycT,ycY,ydk,ydw,ycV,pureOp,apureO,killT,aev,cv,cvc,ydL,ydf,↓reduceIte,ycX,ycR]
  generalize hp : (fun x : ByteArray => e.toList == x.toList) = p
  refine loop_k (fun k : Nat => k ≤ l.length ∧ l.any p = (l.drop k).any p) (fun k => ⟨18, [(4, I k), (3, strs l), (0, S e)], []⟩) (fun k => l.length - k) 0 ⟨Nat.zero_le _, rfl⟩ (by simp only [ycV,aev,cv,cvc,Weak,↓reduceIte,ydt,ydp,and_true,and_self,reduceCtorEq,Nat.reduceEqDiff] <;> simp) rfl rfl ?_
  rintro k ⟨hk, hi⟩ K hK
  simp only at hK
  simp only [ycZ,yda,ydj,ydb,ycQ,ycP,ycT,ycY,ydk,ycV,pureOp,apureO,aev,cv,cvc,binK,ydN,lenA,lenK,↓reduceIte,ydh,true_and,Nat.reduceEqDiff,ycS,Ty.td34,ydA]
  refine condA_dec (fun hlt => ?_) (fun hge => ?_)
  · have hlt' : k < l.length := by omega
    have hx : l[k]? = some l[k] := List.getElem?_eq_getElem hlt'
    rw [List.drop_eq_getElem_cons hlt', List.any_cons] at hi
    generalize l[k] = x at *
    have hpx : p x = (x.toList == e.toList) := by rw [← hp]; exact Bool.beq_comm
    cases hb : (x.toList == e.toList)
    · rw [hpx, hb, Bool.false_or] at hi
      simp only [ydv,ycZ,yda,ydj,ydX,ydb,loopQ_n,blkQ_n,ycQ,ycP,ycT,ycY,ydk,ycV,pureOp,apureO,aev,cv,cvc,binK,ydN,loadA_d,ydB,ydP,ycN,↓reduceIte,yde,ydT,ydh,true_and,reduceCtorEq,Nat.reduceEqDiff,ydR,Ty.td9,Ty.td34,ydS,hx,hb,wrap_in (x := (k : Int) + 1) (by omega) (by omega)]
      refine hK (k + 1) _ ⟨hlt', hi⟩ (by omega) ?_ rfl rfl
      simp only [ycV,aev,cv,cvc,Weak,↓reduceIte,ydt,ydp,and_true,and_self,reduceCtorEq,Nat.reduceEqDiff]
      simp
    · rw [hpx, hb, Bool.true_or] at hi
      simp only [ydv,ycZ,yda,ydj,ydX,ydE,ydb,ydY,loopQ_r,blkQ_r,ycQ,ycP,ycT,ycY,ydk,ycV,ydF,pureOp,apureO,aev,cv,cvc,binK,ydN,loadA_d,ydI,ydo,notExit,ydC,ydD,ydG,ydP,ycN,↓reduceIte,yde,ydT,ydh,true_and,reduceCtorEq,Nat.reduceEqDiff,ydR,Ty.td9,Ty.td34,ydS,hx,hb]
      simp [hi]
  · have hk' : k = l.length := by omega
    subst hk'
    rw [List.drop_length] at hi
    simp only [ycZ,yda,awp_exit,ydE,ydb,seqQ_e,loopQ_e,blkQ_e,ycQ,ycP,ycT,ycY,ydk,ycV,ydF,pureOp,apureO,aev,cv,cvc,ydo,notExit,ydC,ydD,ydG,↓reduceIte,ydh,true_and]
    simp [hi]

theorem sized_op {e : ByteArray} {o : Op13} (ho : opOf e = some o) : sizedB e = (sz o == 1) := by
  have T := op_is ho
  unfold sizedB
  rw [show is_iota e = (ix o == 0) from T .iota, show is_fill e = (ix o == 1) from T .fill, show is_take e = (ix o == 2) from T .take, show is_drop e = (ix o == 3) from T .drop, show is_windows e = (ix o == 8) from T .windows]
  cases o <;> rfl
theorem rks_ok {e : ByteArray} {o : Op13} (ho : opOf e = some o) {n : Nat} (hn : n ≤ 4096) : (rksE e n).2 = (if (ix o == 12) = true then decide ((0 : Int) < n) else (((rk o).length : Int) == (n : Int))) := by
  by_cases h12 : (ix o == 12) = true
  · rw [if_pos h12]
    unfold rksE
    rw [show is_pack e = (ix o == 12) from op_is ho .pack, h12, ho]
    by_cases h0 : (0 : Int) < n
    · rw [if_pos (by simp; omega)]
      simp; omega
    · rw [if_neg (by simp; omega)]
      simp only [h12,Bool.true_or,if_true]
      simp; omega
  · have h12' : (ix o == 12) = false := by simpa using h12
    rw [if_neg h12, rks_op ho h12']
    cases hb : ((n : Int) != ((rk o).length : Int)) with
    | true =>
      rw [if_pos rfl]
      have := bne_iff_ne.1 hb
      exact (beq_false_of_ne fun h => this h.symm).symm
    | false =>
      rw [if_neg (by simp)]
      have := bne_eq_false_iff_eq.1 hb
      rw [this]
      exact (beq_self_eq_true _).symm

theorem refRight_ (e : ByteArray) (zs : List Int) (num : Int) (nc : Nat) (hn : nc ≤ 4096) : Meets Try.prog 41 [S e, ints zs, I num, I nc] (I (formE e zs.length nc num)) := by
  have h1 := refIs_ e
  have h2 := sized_ e
  have h3 := refRanks_ e nc (by omega) (by omega)
  unfold formE
  cases ho : opOf e with
  | none =>
    rw [ho] at h1
    refine meets_of (X := false) Ty.mixed Try.func41 (by kernel_rfl) rfl (by kernel_rfl) (by simp) ?_; rw [Try.ntmps41, Try.results41]
    simp only [ycZ,yda,ydb,ycQ,ycP,ycT,isCallV,ydl,ydm,ycY,ydk,ycV,pureOp,apureO,aev,cv,cvc,argT,ycN,↓reduceIte,ycU,ycW,ycO,reduceCtorEq,Nat.reduceAdd,ydy]
    refine call_meets (h1) (by simp only [aev,cv,cvc,ydo,ydc,ydn,ydi] <;> rfl) ?_; simp only [ycZ,yda,ydj,ydE,ydb,ydY,ycQ,ycP,ycT,ycY,ydk,ydw,ycV,ydF,pureOp,apureO,killT,aev,cv,cvc,ydI,ydu,ydq,ydf,ydd,ydo,notExit,ydC,ydD,ydG,↓reduceIte,ycO,ydp,ycX,ydz,and_self,ycR,Option.isSome_none,Option.isSome_none]
  | some o =>
    rw [ho] at h1
    simp only
    have hr := rks_ok ho hn
    have hs := sized_op ho
    have hc : is_chunk e = (ix o == 9) := op_is ho .chunk
    have hsz : sz o = 1 ∨ sz o = 0 := by cases o <;> simp [sz]
    rw [← hr]
    generalize rksE e nc = r at *
    obtain ⟨rr, rb⟩ := r
    simp only at h3 hr ⊢
    generalize hb9 : (ix o == 9) = b9 at *
    rcases hsz with hsz | hsz
    · rw [hsz] at hs ⊢
      rw [show ((1 : Int) == 1) = true from rfl] at hs
      rw [hs] at h2
      cases rb with
      | false =>
        simp only [ydM,ycN,if_false]
        refine meets_of (X := false) Ty.mixed Try.func41 (by kernel_rfl) rfl (by kernel_rfl) (by simp) ?_; rw [Try.ntmps41, Try.results41]
        simp only [ycZ,yda,ydb,ycQ,ycP,ycT,isCallV,ydl,ydm,ycY,ydk,ycV,pureOp,apureO,aev,cv,cvc,argT,ycN,↓reduceIte,ycU,ycW,ycO,reduceCtorEq,Nat.reduceAdd,ydy]
        refine call_meets (h1) (by simp only [aev,cv,cvc,ydo,ydc,ydn,ydi] <;> rfl) ?_; simp only [ydv,ycZ,yda,ydj,ydb,ycQ,ycP,ycT,isCallV,ydl,ydm,ycY,ydk,ydw,ycV,pureOp,apureO,killT,aev,cv,cvc,ydB,ydu,ydq,ydf,ydd,ycN,↓reduceIte,ycU,ycW,ycO,ycX,ydg,reduceCtorEq,ycR,ycS,ycS]
        refine call_meets (h2) (by simp only [aev,cv,cvc,ydo,ydc,ydn,ydi] <;> rfl) ?_; simp only [ycZ,yda,ydj,ydb,ycQ,ycP,ycT,isCallV,ydl,ydm,ycY,ydk,ydw,ycV,pureOp,apureO,killT,aev,cv,cvc,ydI,ydu,ydq,ydf,ydd,ycN,↓reduceIte,ycU,ycW,ycO,ycX,reduceCtorEq,Nat.reduceEqDiff,ycR]
        refine call_meets (h3) (by simp only [aev,cv,cvc,ydo,ydc,ydn,ydi] <;> rfl) ?_; simp only [ycZ,yda,ydj,ydE,ydb,ydY,ycQ,ycP,ydJ,ycT,ycY,ydk,ydw,ycV,ydF,pureOp,apureO,killT,aev,cv,cvc,ydN,yieldA,guardA_no,guardA_ft,ydI,ydU,ydu,ydO,ydL,ydK,ydH,ydq,ydf,ydd,ydo,notExit,ydC,ydD,ydG,↓reduceIte,yde,ydr,ycO,yds,ydx,ydt,ydp,ycX,ydz,and_true,and_self,Nat.reduceEqDiff,ycR]
      | true =>
        simp only [ydh]
        cases h5 : ((zs.length : Int) != 1) with
        | true =>
          simp only [ydg,ydM,ycN,if_false]
          refine meets_of (X := false) Ty.mixed Try.func41 (by kernel_rfl) rfl (by kernel_rfl) (by simp) ?_; rw [Try.ntmps41, Try.results41]
          simp only [ycZ,yda,ydb,ycQ,ycP,ycT,isCallV,ydl,ydm,ycY,ydk,ycV,pureOp,apureO,aev,cv,cvc,argT,ycN,↓reduceIte,ycU,ycW,ycO,reduceCtorEq,Nat.reduceAdd,ydy]
          refine call_meets (h1) (by simp only [aev,cv,cvc,ydo,ydc,ydn,ydi] <;> rfl) ?_; simp only [ydv,ycZ,yda,ydj,ydb,ycQ,ycP,ycT,isCallV,ydl,ydm,ycY,ydk,ydw,ycV,pureOp,apureO,killT,aev,cv,cvc,ydB,ydu,ydq,ydf,ydd,ycN,↓reduceIte,ycU,ycW,ycO,ycX,ydg,reduceCtorEq,ycR,ycS,ycS]
          refine call_meets (h2) (by simp only [aev,cv,cvc,ydo,ydc,ydn,ydi] <;> rfl) ?_; simp only [ycZ,yda,ydj,ydb,ycQ,ycP,ycT,isCallV,ydl,ydm,ycY,ydk,ydw,ycV,pureOp,apureO,killT,aev,cv,cvc,ydI,ydu,ydq,ydf,ydd,ycN,↓reduceIte,ycU,ycW,ycO,ycX,reduceCtorEq,Nat.reduceEqDiff,ycR]
          refine call_meets (h3) (by simp only [aev,cv,cvc,ydo,ydc,ydn,ydi,h5] <;> rfl) ?_; simp only [ycZ,yda,ydj,ydE,ydb,ydY,ycQ,ycP,ydJ,ycT,ydV,ycY,ydk,ydw,ycV,ydF,pureOp,apureO,killT,aev,cv,cvc,binK,ydN,lenA,lenK,yieldA,guardA_no,guardA_ft,ydQ,ydI,ydU,ydW,ydu,ydO,ydL,ydK,ydH,ydq,ydf,ydd,ydo,notExit,ydC,ydD,ydG,↓reduceIte,yde,ydr,ycO,yds,ydx,ydt,ydh,ydp,ycX,ydg,true_and,and_true,and_self,reduceCtorEq,Nat.reduceEqDiff,ycR,ycS,Ty.td22,ydA,h5]
        | false =>
          cases h6 : (num != 0) with
          | false =>
            simp only [ydM,ydz,ydp,if_true]
            refine meets_of (X := false) Ty.mixed Try.func41 (by kernel_rfl) rfl (by kernel_rfl) (by simp) ?_; rw [Try.ntmps41, Try.results41]
            simp only [ycZ,yda,ydb,ycQ,ycP,ycT,isCallV,ydl,ydm,ycY,ydk,ycV,pureOp,apureO,aev,cv,cvc,argT,ycN,↓reduceIte,ycU,ycW,ycO,reduceCtorEq,Nat.reduceAdd,ydy]
            refine call_meets (h1) (by simp only [aev,cv,cvc,ydo,ydc,ydn,ydi] <;> rfl) ?_; simp only [ydv,ycZ,yda,ydj,ydb,ycQ,ycP,ycT,isCallV,ydl,ydm,ycY,ydk,ydw,ycV,pureOp,apureO,killT,aev,cv,cvc,ydB,ydu,ydq,ydf,ydd,ycN,↓reduceIte,ycU,ycW,ycO,ycX,ydg,reduceCtorEq,ycR,ycS,ycS]
            refine call_meets (h2) (by simp only [aev,cv,cvc,ydo,ydc,ydn,ydi] <;> rfl) ?_; simp only [ycZ,yda,ydj,ydb,ycQ,ycP,ycT,isCallV,ydl,ydm,ycY,ydk,ydw,ycV,pureOp,apureO,killT,aev,cv,cvc,ydI,ydu,ydq,ydf,ydd,ycN,↓reduceIte,ycU,ycW,ycO,ycX,reduceCtorEq,Nat.reduceEqDiff,ycR]
            refine call_meets (h3) (by simp only [aev,cv,cvc,ydo,ydc,ydn,ydi,h5,h6] <;> rfl) ?_; simp only [ydv,ycZ,yda,ydj,ydE,ydb,ycQ,ycP,ydJ,ycT,ydV,ycY,ydk,ydw,ycV,ydF,pureOp,apureO,killT,aev,cv,cvc,binK,ydN,lenA,lenK,yieldA,guardA_tf,ydQ,ydB,ydW,ydu,ydO,ydL,ydK,ydH,ydq,ydf,ydd,ydo,notExit,ydC,ydD,ydG,↓reduceIte,yde,ydr,ycO,yds,ydx,ydt,ydh,ydp,ycX,ydg,true_and,and_true,and_self,reduceCtorEq,Nat.reduceEqDiff,ycR,ycS,Ty.td22,ydA,h5,h6]
          | true =>
            cases b9
            · simp only [ydh,ydz,ydg,Bool.and_false,ycN,if_false]
              refine meets_of (X := false) Ty.mixed Try.func41 (by kernel_rfl) rfl (by kernel_rfl) (by simp) ?_; rw [Try.ntmps41, Try.results41]
              simp only [ycZ,yda,ydb,ycQ,ycP,ycT,isCallV,ydl,ydm,ycY,ydk,ycV,pureOp,apureO,aev,cv,cvc,argT,ycN,↓reduceIte,ycU,ycW,ycO,reduceCtorEq,Nat.reduceAdd,ydy]
              refine call_meets (h1) (by simp only [aev,cv,cvc,ydo,ydc,ydn,ydi] <;> rfl) ?_; simp only [ydv,ycZ,yda,ydj,ydb,ycQ,ycP,ycT,isCallV,ydl,ydm,ycY,ydk,ydw,ycV,pureOp,apureO,killT,aev,cv,cvc,ydB,ydu,ydq,ydf,ydd,ycN,↓reduceIte,ycU,ycW,ycO,ycX,ydg,reduceCtorEq,ycR,ycS,ycS]
              refine call_meets (h2) (by simp only [aev,cv,cvc,ydo,ydc,ydn,ydi] <;> rfl) ?_; simp only [ycZ,yda,ydj,ydb,ycQ,ycP,ycT,isCallV,ydl,ydm,ycY,ydk,ydw,ycV,pureOp,apureO,killT,aev,cv,cvc,ydI,ydu,ydq,ydf,ydd,ycN,↓reduceIte,ycU,ycW,ycO,ycX,reduceCtorEq,Nat.reduceEqDiff,ycR]
              refine call_meets (h3) (by simp only [aev,cv,cvc,ydo,ydc,ydn,ydi,h5,h6,hc] <;> rfl) ?_; simp only [ycZ,yda,ydj,ydE,ydb,ydY,ycQ,ycP,ydJ,ycT,ydV,ycY,ydk,ydw,ycV,ydF,pureOp,apureO,killT,aev,cv,cvc,binK,ydN,lenA,lenK,yieldA,guardA_tt,ydQ,ydI,ydU,ydW,ydu,ydO,ydL,ydK,ydH,ydq,ydf,ydd,ydo,notExit,ydC,ydD,ydG,↓reduceIte,yde,ydr,ycO,yds,ydx,ydt,ydh,ydp,ycX,ydg,ydz,true_and,and_true,and_self,reduceCtorEq,Nat.reduceEqDiff,ycR,ycS,Ty.td22,ydA,h5,h6,hc]
            · simp only [ydh,ydz,ydg,ydt,if_true]
              refine meets_of (X := false) Ty.mixed Try.func41 (by kernel_rfl) rfl (by kernel_rfl) (by simp) ?_; rw [Try.ntmps41, Try.results41]
              simp only [ycZ,yda,ydb,ycQ,ycP,ycT,isCallV,ydl,ydm,ycY,ydk,ycV,pureOp,apureO,aev,cv,cvc,argT,ycN,↓reduceIte,ycU,ycW,ycO,reduceCtorEq,Nat.reduceAdd,ydy]
              refine call_meets (h1) (by simp only [aev,cv,cvc,ydo,ydc,ydn,ydi] <;> rfl) ?_; simp only [ydv,ycZ,yda,ydj,ydb,ycQ,ycP,ycT,isCallV,ydl,ydm,ycY,ydk,ydw,ycV,pureOp,apureO,killT,aev,cv,cvc,ydB,ydu,ydq,ydf,ydd,ycN,↓reduceIte,ycU,ycW,ycO,ycX,ydg,reduceCtorEq,ycR,ycS,ycS]
              refine call_meets (h2) (by simp only [aev,cv,cvc,ydo,ydc,ydn,ydi] <;> rfl) ?_; simp only [ycZ,yda,ydj,ydb,ycQ,ycP,ycT,isCallV,ydl,ydm,ycY,ydk,ydw,ycV,pureOp,apureO,killT,aev,cv,cvc,ydI,ydu,ydq,ydf,ydd,ycN,↓reduceIte,ycU,ycW,ycO,ycX,reduceCtorEq,Nat.reduceEqDiff,ycR]
              refine call_meets (h3) (by simp only [aev,cv,cvc,ydo,ydc,ydn,ydi,h5,h6,hc] <;> rfl) ?_; simp only [ydv,ycZ,yda,ydj,ydE,ydb,ycQ,ycP,ydJ,ycT,ydV,ycY,ydk,ydw,ycV,ydF,pureOp,apureO,killT,aev,cv,cvc,binK,ydN,lenA,lenK,yieldA,guardA_tt,ydQ,ydB,ydU,ydW,ydu,ydO,ydL,ydK,ydH,ydq,ydf,ydd,ydo,notExit,ydC,ydD,ydG,↓reduceIte,yde,ydr,ycO,yds,ydx,ydt,ydh,ydp,ycX,ydg,true_and,and_true,and_self,reduceCtorEq,Nat.reduceEqDiff,ycR,ycS,Ty.td22,ydA,h5,h6,hc]
    · rw [hsz] at hs ⊢
      rw [show ((0 : Int) == 1) = false from rfl] at hs
      rw [hs] at h2
      cases rb with
      | false =>
        simp only [ydM,ycN,if_false]
        refine meets_of (X := false) Ty.mixed Try.func41 (by kernel_rfl) rfl (by kernel_rfl) (by simp) ?_; rw [Try.ntmps41, Try.results41]
        simp only [ycZ,yda,ydb,ycQ,ycP,ycT,isCallV,ydl,ydm,ycY,ydk,ycV,pureOp,apureO,aev,cv,cvc,argT,ycN,↓reduceIte,ycU,ycW,ycO,reduceCtorEq,Nat.reduceAdd,ydy]
        refine call_meets (h1) (by simp only [aev,cv,cvc,ydo,ydc,ydn,ydi] <;> rfl) ?_; simp only [ydv,ycZ,yda,ydj,ydb,ycQ,ycP,ycT,isCallV,ydl,ydm,ycY,ydk,ydw,ycV,pureOp,apureO,killT,aev,cv,cvc,ydB,ydu,ydq,ydf,ydd,ycN,↓reduceIte,ycU,ycW,ycO,ycX,ydg,reduceCtorEq,ycR,ycS,ycS]
        refine call_meets (h2) (by simp only [aev,cv,cvc,ydo,ydc,ydn,ydi] <;> rfl) ?_; simp only [ydv,ycZ,yda,ydj,ydb,ycQ,ycP,ycT,isCallV,ydl,ydm,ycY,ydk,ydw,ycV,pureOp,apureO,killT,aev,cv,cvc,ydB,ydu,ydq,ydf,ydd,ycN,↓reduceIte,ycU,ycW,ycO,ycX,reduceCtorEq,Nat.reduceEqDiff,ycR]
        refine call_meets (h3) (by simp only [aev,cv,cvc,ydo,ydc,ydn,ydi] <;> rfl) ?_; simp only [ycZ,yda,ydj,ydE,ydb,ydY,ycQ,ycP,ydJ,ycT,ycY,ydk,ydw,ycV,ydF,pureOp,apureO,killT,aev,cv,cvc,ydN,yieldA,guardA_no,guardA_ft,ydI,ydU,ydu,ydO,ydL,ydK,ydH,ydq,ydf,ydd,ydo,notExit,ydC,ydD,ydG,↓reduceIte,yde,ydr,ycO,yds,ydx,ydt,ydp,ycX,ydz,and_true,and_self,Nat.reduceEqDiff,ycR]
      | true =>
        simp only [ydh]
        cases h5 : ((zs.length : Int) != 0) with
        | true =>
          simp only [ydg,ydM,ycN,if_false]
          refine meets_of (X := false) Ty.mixed Try.func41 (by kernel_rfl) rfl (by kernel_rfl) (by simp) ?_; rw [Try.ntmps41, Try.results41]
          simp only [ycZ,yda,ydb,ycQ,ycP,ycT,isCallV,ydl,ydm,ycY,ydk,ycV,pureOp,apureO,aev,cv,cvc,argT,ycN,↓reduceIte,ycU,ycW,ycO,reduceCtorEq,Nat.reduceAdd,ydy]
          refine call_meets (h1) (by simp only [aev,cv,cvc,ydo,ydc,ydn,ydi] <;> rfl) ?_; simp only [ydv,ycZ,yda,ydj,ydb,ycQ,ycP,ycT,isCallV,ydl,ydm,ycY,ydk,ydw,ycV,pureOp,apureO,killT,aev,cv,cvc,ydB,ydu,ydq,ydf,ydd,ycN,↓reduceIte,ycU,ycW,ycO,ycX,ydg,reduceCtorEq,ycR,ycS,ycS]
          refine call_meets (h2) (by simp only [aev,cv,cvc,ydo,ydc,ydn,ydi] <;> rfl) ?_; simp only [ydv,ycZ,yda,ydj,ydb,ycQ,ycP,ycT,isCallV,ydl,ydm,ycY,ydk,ydw,ycV,pureOp,apureO,killT,aev,cv,cvc,ydB,ydu,ydq,ydf,ydd,ycN,↓reduceIte,ycU,ycW,ycO,ycX,reduceCtorEq,Nat.reduceEqDiff,ycR]
          refine call_meets (h3) (by simp only [aev,cv,cvc,ydo,ydc,ydn,ydi,h5] <;> rfl) ?_; simp only [ycZ,yda,ydj,ydE,ydb,ydY,ycQ,ycP,ydJ,ycT,ydV,ycY,ydk,ydw,ycV,ydF,pureOp,apureO,killT,aev,cv,cvc,binK,ydN,lenA,lenK,yieldA,guardA_no,guardA_ft,ydQ,ydI,ydU,ydW,ydu,ydO,ydL,ydK,ydH,ydq,ydf,ydd,ydo,notExit,ydC,ydD,ydG,↓reduceIte,yde,ydr,ycO,yds,ydx,ydt,ydh,ydp,ycX,ydg,true_and,and_true,and_self,reduceCtorEq,Nat.reduceEqDiff,ycR,ycS,Ty.td22,ydA,h5]
        | false =>
          cases h6 : (num != 0) with
          | false =>
            simp only [ydM,ydz,ydp,if_true]
            refine meets_of (X := false) Ty.mixed Try.func41 (by kernel_rfl) rfl (by kernel_rfl) (by simp) ?_; rw [Try.ntmps41, Try.results41]
            simp only [ycZ,yda,ydb,ycQ,ycP,ycT,isCallV,ydl,ydm,ycY,ydk,ycV,pureOp,apureO,aev,cv,cvc,argT,ycN,↓reduceIte,ycU,ycW,ycO,reduceCtorEq,Nat.reduceAdd,ydy]
            refine call_meets (h1) (by simp only [aev,cv,cvc,ydo,ydc,ydn,ydi] <;> rfl) ?_; simp only [ydv,ycZ,yda,ydj,ydb,ycQ,ycP,ycT,isCallV,ydl,ydm,ycY,ydk,ydw,ycV,pureOp,apureO,killT,aev,cv,cvc,ydB,ydu,ydq,ydf,ydd,ycN,↓reduceIte,ycU,ycW,ycO,ycX,ydg,reduceCtorEq,ycR,ycS,ycS]
            refine call_meets (h2) (by simp only [aev,cv,cvc,ydo,ydc,ydn,ydi] <;> rfl) ?_; simp only [ydv,ycZ,yda,ydj,ydb,ycQ,ycP,ycT,isCallV,ydl,ydm,ycY,ydk,ydw,ycV,pureOp,apureO,killT,aev,cv,cvc,ydB,ydu,ydq,ydf,ydd,ycN,↓reduceIte,ycU,ycW,ycO,ycX,reduceCtorEq,Nat.reduceEqDiff,ycR]
            refine call_meets (h3) (by simp only [aev,cv,cvc,ydo,ydc,ydn,ydi,h5,h6] <;> rfl) ?_; simp only [ydv,ycZ,yda,ydj,ydE,ydb,ycQ,ycP,ydJ,ycT,ydV,ycY,ydk,ydw,ycV,ydF,pureOp,apureO,killT,aev,cv,cvc,binK,ydN,lenA,lenK,yieldA,guardA_tf,ydQ,ydB,ydW,ydu,ydO,ydL,ydK,ydH,ydq,ydf,ydd,ydo,notExit,ydC,ydD,ydG,↓reduceIte,yde,ydr,ycO,yds,ydx,ydt,ydh,ydp,ycX,ydg,true_and,and_true,and_self,reduceCtorEq,Nat.reduceEqDiff,ycR,ycS,Ty.td22,ydA,h5,h6]
          | true =>
            cases b9
            · simp only [ydh,ydz,ydg,Bool.and_false,ycN,if_false]
              refine meets_of (X := false) Ty.mixed Try.func41 (by kernel_rfl) rfl (by kernel_rfl) (by simp) ?_; rw [Try.ntmps41, Try.results41]
              simp only [ycZ,yda,ydb,ycQ,ycP,ycT,isCallV,ydl,ydm,ycY,ydk,ycV,pureOp,apureO,aev,cv,cvc,argT,ycN,↓reduceIte,ycU,ycW,ycO,reduceCtorEq,Nat.reduceAdd,ydy]
              refine call_meets (h1) (by simp only [aev,cv,cvc,ydo,ydc,ydn,ydi] <;> rfl) ?_; simp only [ydv,ycZ,yda,ydj,ydb,ycQ,ycP,ycT,isCallV,ydl,ydm,ycY,ydk,ydw,ycV,pureOp,apureO,killT,aev,cv,cvc,ydB,ydu,ydq,ydf,ydd,ycN,↓reduceIte,ycU,ycW,ycO,ycX,ydg,reduceCtorEq,ycR,ycS,ycS]
              refine call_meets (h2) (by simp only [aev,cv,cvc,ydo,ydc,ydn,ydi] <;> rfl) ?_; simp only [ydv,ycZ,yda,ydj,ydb,ycQ,ycP,ycT,isCallV,ydl,ydm,ycY,ydk,ydw,ycV,pureOp,apureO,killT,aev,cv,cvc,ydB,ydu,ydq,ydf,ydd,ycN,↓reduceIte,ycU,ycW,ycO,ycX,reduceCtorEq,Nat.reduceEqDiff,ycR]
              refine call_meets (h3) (by simp only [aev,cv,cvc,ydo,ydc,ydn,ydi,h5,h6,hc] <;> rfl) ?_; simp only [ycZ,yda,ydj,ydE,ydb,ydY,ycQ,ycP,ydJ,ycT,ydV,ycY,ydk,ydw,ycV,ydF,pureOp,apureO,killT,aev,cv,cvc,binK,ydN,lenA,lenK,yieldA,guardA_tt,ydQ,ydI,ydU,ydW,ydu,ydO,ydL,ydK,ydH,ydq,ydf,ydd,ydo,notExit,ydC,ydD,ydG,↓reduceIte,yde,ydr,ycO,yds,ydx,ydt,ydh,ydp,ycX,ydg,ydz,true_and,and_true,and_self,reduceCtorEq,Nat.reduceEqDiff,ycR,ycS,Ty.td22,ydA,h5,h6,hc]
            · simp only [ydh,ydz,ydg,ydt,if_true]
              refine meets_of (X := false) Ty.mixed Try.func41 (by kernel_rfl) rfl (by kernel_rfl) (by simp) ?_; rw [Try.ntmps41, Try.results41]
              simp only [ycZ,yda,ydb,ycQ,ycP,ycT,isCallV,ydl,ydm,ycY,ydk,ycV,pureOp,apureO,aev,cv,cvc,argT,ycN,↓reduceIte,ycU,ycW,ycO,reduceCtorEq,Nat.reduceAdd,ydy]
              refine call_meets (h1) (by simp only [aev,cv,cvc,ydo,ydc,ydn,ydi] <;> rfl) ?_; simp only [ydv,ycZ,yda,ydj,ydb,ycQ,ycP,ycT,isCallV,ydl,ydm,ycY,ydk,ydw,ycV,pureOp,apureO,killT,aev,cv,cvc,ydB,ydu,ydq,ydf,ydd,ycN,↓reduceIte,ycU,ycW,ycO,ycX,ydg,reduceCtorEq,ycR,ycS,ycS]
              refine call_meets (h2) (by simp only [aev,cv,cvc,ydo,ydc,ydn,ydi] <;> rfl) ?_; simp only [ydv,ycZ,yda,ydj,ydb,ycQ,ycP,ycT,isCallV,ydl,ydm,ycY,ydk,ydw,ycV,pureOp,apureO,killT,aev,cv,cvc,ydB,ydu,ydq,ydf,ydd,ycN,↓reduceIte,ycU,ycW,ycO,ycX,reduceCtorEq,Nat.reduceEqDiff,ycR]
              refine call_meets (h3) (by simp only [aev,cv,cvc,ydo,ydc,ydn,ydi,h5,h6,hc] <;> rfl) ?_; simp only [ydv,ycZ,yda,ydj,ydE,ydb,ycQ,ycP,ydJ,ycT,ydV,ycY,ydk,ydw,ycV,ydF,pureOp,apureO,killT,aev,cv,cvc,binK,ydN,lenA,lenK,yieldA,guardA_tt,ydQ,ydB,ydU,ydW,ydu,ydO,ydL,ydK,ydH,ydq,ydf,ydd,ydo,notExit,ydC,ydD,ydG,↓reduceIte,yde,ydr,ycO,yds,ydx,ydt,ydh,ydp,ycX,ydg,true_and,and_true,and_self,reduceCtorEq,Nat.reduceEqDiff,ycR,ycS,Ty.td22,ydA,h5,h6,hc]
end Go.Proofs.Ytbmmemglkjeogaa.S30
