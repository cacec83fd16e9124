/- Structure: the elements of results in the reference. -/
import Derived.Test.YtbmmemglkjeogaaS32
namespace Go.Proofs.Ytbmmemglkjeogaa.S34
open Go Go.Proofs.Ytbmmemglkjeogaa.Eng Go.Proofs.Ytbmmemglkjeogaa Go.RowKit Go.Proofs.Ytbmmemglkjeogaa.A1 Go.Proofs.Ytbmmemglkjeogaa.A2 Go.Proofs.Ytbmmemglkjeogaa.A3 Go.Proofs.Ytbmmemglkjeogaa.A4 Go.Proofs.Ytbmmemglkjeogaa.A5 Go.Proofs.Ytbmmemglkjeogaa.S1 Go.Proofs.Ytbmmemglkjeogaa.S2 Go.Proofs.Ytbmmemglkjeogaa.S3 Go.Proofs.Ytbmmemglkjeogaa.S4 Go.Proofs.Ytbmmemglkjeogaa.S5 Go.Proofs.Ytbmmemglkjeogaa.S6 Go.Proofs.Ytbmmemglkjeogaa.S7 Go.Proofs.Ytbmmemglkjeogaa.S8 Go.Proofs.Ytbmmemglkjeogaa.S9 Go.Proofs.Ytbmmemglkjeogaa.S13 Go.Proofs.Ytbmmemglkjeogaa.S14 Go.Proofs.Ytbmmemglkjeogaa.S29 Go.Proofs.Ytbmmemglkjeogaa.S30 Go.Proofs.Ytbmmemglkjeogaa.S31 Go.Proofs.Ytbmmemglkjeogaa.S32
open _root_.List renaming getElem?_cons_zero → za, getElem?_cons_succ → zb, drop_succ_cons → zd, getElem?_map → ze, drop_zero → zj
open _root_.Bool renaming false_eq_true → zc, and_true → zg, true_and → zh, and_self → zi
open _root_.Option renaming map_some → zf
open _root_.Nat renaming zero_add → zk
open _root_.Int renaming le_refl → zl
open _root_.Go.Proofs.Ytbmmemglkjeogaa.Eng renaming awpOps_nil → zm, awpOps_one → zn, lastOnly_cons → zo, awp_block → zp, lastOnly_nil → zq, awpOpsD_nil → zr, awpOpsD_one → zt, awp_cond → zu, awpOp_is → zw, resA_nil → zx, resA_tmp → zy, awp_reg → zz, awp_seq → zA, awp_ret → zB, putK_is → zD, slot_is → zE, retA_is → zF, loadA_d → zG, toD_agg → zH, awpOpD_is → zI, condA_t → zJ, condA_f → zK, seqQ_n → zL, oneA_1 → zM, awp_regD → zN, seqQ_r → zO, blkQ_r → zP, put_s → zQ, elO_s → zR, toD_c → zS
set_option linter.unusedSimpArgs false
set_option linter.unusedVariables false
set_option linter.unusedSectionVars false
set_option maxRecDepth 100000

theorem dat0 {l : List Ar} {i r : Int} (h : Dat l 0 i r) : 0 ≤ i ∧ ∃ a, l[0]? = some a ∧ a.2.2[i.toNat]? = some r := h.2
theorem dat1 {l : List Ar} {i r : Int} (h : Dat l 1 i r) : 0 ≤ i ∧ ∃ a, l[1]? = some a ∧ a.2.2[i.toNat]? = some r := h.2
theorem dim0 {l : List Ar} {d : Int} (h : Dim l 0 d) : ∃ a, l[0]? = some a ∧ a.2.1[0]? = some d := h.2
theorem dim1 {l : List Ar} {d : Int} (h : Dim l 1 d) : ∃ a, l[0]? = some a ∧ a.2.1[1]? = some d := h.2
/-- What the reference needs of sizes and of an index. -/
def At (o : Op13) (zs : List Int) (num size : Int) (l : List Ar) (is : List Int) (x y : Int) : Prop :=
  (ix o ≠ 1 → is[0]? = some x) ∧ ((ix o = 6 ∨ ix o = 8 ∨ ix o = 9) → is[1]? = some y) ∧ (ix o = 3 → zs[0]? = some size) ∧ (ix o = 9 → num = size) ∧ ((ix o = 4 ∨ ix o = 5) → ∀ a d, l[0]? = some a → a.2.1[0]? = some d → (a.2.2.length : Int) = d) ∧ (ix o = 7 → ∀ a d, l[0]? = some a → a.2.1[0]? = some d → a.2.1[1]? = some d)

set_option maxHeartbeats 8000000 in
theorem refEl_ {e : ByteArray} {o : Op13} {zs : List Int} {num size : Int} {l : List Ar} {is : List Int} {x y r : Int} (ho : opOf e = some o) (hn : isNm e = false) (h : El o size l x y r) (hA : At o zs num size l is x y) :
    Meets Try.prog 45 [S e, ints zs, I num, arrs l, ints is] (I r) := by
  obtain ⟨hi0, hi1, hz, hnum, hlen, hdg⟩ := hA
  cases o
  case iota =>
    have t0 : is_iota e = true := op_is ho .iota
    have t1 : is_fill e = false := op_is ho .fill
    have t2 : is_take e = false := op_is ho .take
    have t3 : is_drop e = false := op_is ho .drop
    have t4 : is_reverse e = false := op_is ho .reverse
    have t5 : is_append e = false := op_is ho .append
    have t6 : is_transpose e = false := op_is ho .transpose
    have t7 : is_diagonal e = false := op_is ho .diagonal
    have t8 : is_windows e = false := op_is ho .windows
    have t9 : is_chunk e = false := op_is ho .chunk
    have t10 : is_index e = false := op_is ho .index
    have t11 : is_update e = false := op_is ho .update
    have t12 : is_pack e = false := op_is ho .pack
    have hi0 := hi0 (by simp [ix])
    clear hi1
    clear hz
    clear hnum
    replace h : r = x := h
    subst h
    refine meets_of (X := false) Ty.mixed Try.func45 (by kernel_rfl) rfl (by kernel_rfl) (by simp) ?_; rw [Try.ntmps45, Try.results45]
    simp only [zz,zA,zu,zp,zB,zL,zO,zP,zm,zn,zw,zD,zQ,zE,zF,pureOp,apureO,aev,cv,cvc,binK,zR,zG,zJ,zS,zH,notExit,zx,zy,zM,argT,zc,↓reduceIte,za,zf,zg,zh,zi,true_and,and_true,and_self,reduceCtorEq,Nat.reduceAdd,Nat.reduceEqDiff,zk,Int.reduceToNat,zl,Ty.td3,Ty.td22,t0,t1,t2,t3,t4,t5,t6,t7,t8,t9,t10,t11,t12,ze,hi0]
  case fill =>
    have t0 : is_iota e = false := op_is ho .iota
    have t1 : is_fill e = true := op_is ho .fill
    have t2 : is_take e = false := op_is ho .take
    have t3 : is_drop e = false := op_is ho .drop
    have t4 : is_reverse e = false := op_is ho .reverse
    have t5 : is_append e = false := op_is ho .append
    have t6 : is_transpose e = false := op_is ho .transpose
    have t7 : is_diagonal e = false := op_is ho .diagonal
    have t8 : is_windows e = false := op_is ho .windows
    have t9 : is_chunk e = false := op_is ho .chunk
    have t10 : is_index e = false := op_is ho .index
    have t11 : is_update e = false := op_is ho .update
    have t12 : is_pack e = false := op_is ho .pack
    clear hi0
    clear hi1
    clear hz
    clear hnum
    obtain ⟨b, a, ha, hd⟩ := dat0 h
    replace hd : a.2.2[0]? = some r := hd
    refine meets_of (X := false) Ty.mixed Try.func45 (by kernel_rfl) rfl (by kernel_rfl) (by simp) ?_; rw [Try.ntmps45, Try.results45]
    simp only [zz,zA,zu,zp,zB,zL,zO,zP,zm,zn,zw,zD,zQ,zE,zF,pureOp,apureO,aev,cv,cvc,binK,zR,zG,zJ,zK,zS,zH,notExit,zx,zy,zM,argT,zc,↓reduceIte,za,zb,zf,zd,zj,zg,zh,zi,true_and,and_true,and_self,ne_eq,not_false_eq_true,reduceCtorEq,Nat.reduceAdd,Nat.reduceEqDiff,zk,Int.reduceToNat,zl,Ty.td3,Ty.td22,Ty.td25,Ty.td29,t0,t1,t2,t3,t4,t5,t6,t7,t8,t9,t10,t11,t12,ze,encA,ha,hd]
    try (repeat first | exact b | exact b0 | omega | refine ⟨?_, ?_⟩)
  case take =>
    have t0 : is_iota e = false := op_is ho .iota
    have t1 : is_fill e = false := op_is ho .fill
    have t2 : is_take e = true := op_is ho .take
    have t3 : is_drop e = false := op_is ho .drop
    have t4 : is_reverse e = false := op_is ho .reverse
    have t5 : is_append e = false := op_is ho .append
    have t6 : is_transpose e = false := op_is ho .transpose
    have t7 : is_diagonal e = false := op_is ho .diagonal
    have t8 : is_windows e = false := op_is ho .windows
    have t9 : is_chunk e = false := op_is ho .chunk
    have t10 : is_index e = false := op_is ho .index
    have t11 : is_update e = false := op_is ho .update
    have t12 : is_pack e = false := op_is ho .pack
    have hi0 := hi0 (by simp [ix])
    clear hi1
    clear hz
    clear hnum
    obtain ⟨b, a, ha, hd⟩ := dat0 h
    refine meets_of (X := false) Ty.mixed Try.func45 (by kernel_rfl) rfl (by kernel_rfl) (by simp) ?_; rw [Try.ntmps45, Try.results45]
    simp only [zz,zN,zA,zu,zp,zB,zL,zO,zP,zm,zn,zr,zt,zw,zI,zq,zo,zD,zQ,zE,zF,keepOp,pureOp,apureO,aev,cv,cvc,binK,zR,zG,zJ,zK,zS,zH,notExit,zx,zy,zM,argT,zc,↓reduceIte,za,zb,zf,zd,zj,zg,zh,zi,true_and,and_true,and_self,ne_eq,not_false_eq_true,reduceCtorEq,Nat.reduceAdd,Nat.reduceEqDiff,zk,Int.reduceToNat,zl,Ty.td3,Ty.td22,Ty.td25,Ty.td29,t0,t1,t2,t3,t4,t5,t6,t7,t8,t9,t10,t11,t12,ze,encA,hi0,ha,hd]
    try (repeat first | exact b | exact b0 | omega | refine ⟨?_, ?_⟩)
  case drop =>
    have t0 : is_iota e = false := op_is ho .iota
    have t1 : is_fill e = false := op_is ho .fill
    have t2 : is_take e = false := op_is ho .take
    have t3 : is_drop e = true := op_is ho .drop
    have t4 : is_reverse e = false := op_is ho .reverse
    have t5 : is_append e = false := op_is ho .append
    have t6 : is_transpose e = false := op_is ho .transpose
    have t7 : is_diagonal e = false := op_is ho .diagonal
    have t8 : is_windows e = false := op_is ho .windows
    have t9 : is_chunk e = false := op_is ho .chunk
    have t10 : is_index e = false := op_is ho .index
    have t11 : is_update e = false := op_is ho .update
    have t12 : is_pack e = false := op_is ho .pack
    have hi0 := hi0 (by simp [ix])
    clear hi1
    have hz := hz rfl
    clear hnum
    replace h : Dat l 0 (W (x + size)) r := h
    rw [Int.add_comm] at h
    obtain ⟨b, a, ha, hd⟩ := dat0 h
    refine meets_of (X := false) Ty.mixed Try.func45 (by kernel_rfl) rfl (by kernel_rfl) (by simp) ?_; rw [Try.ntmps45, Try.results45]
    simp only [zz,zN,zA,zu,zp,zB,zL,zO,zP,zm,zn,zr,zt,zw,zI,zq,zo,zD,zQ,zE,zF,keepOp,pureOp,apureO,aev,cv,cvc,binK,zR,zG,zJ,zK,zS,zH,notExit,zx,zy,zM,argT,zc,↓reduceIte,za,zb,zf,zd,zj,zg,zh,zi,true_and,and_true,and_self,ne_eq,not_false_eq_true,reduceCtorEq,Nat.reduceAdd,Nat.reduceEqDiff,zk,Int.reduceToNat,zl,Ty.td3,Ty.td22,Ty.td25,Ty.td29,t0,t1,t2,t3,t4,t5,t6,t7,t8,t9,t10,t11,t12,ze,encA,hi0,hz,ha,hd]
    try (repeat first | exact b | exact b0 | omega | refine ⟨?_, ?_⟩)
  case reverse =>
    have t0 : is_iota e = false := op_is ho .iota
    have t1 : is_fill e = false := op_is ho .fill
    have t2 : is_take e = false := op_is ho .take
    have t3 : is_drop e = false := op_is ho .drop
    have t4 : is_reverse e = true := op_is ho .reverse
    have t5 : is_append e = false := op_is ho .append
    have t6 : is_transpose e = false := op_is ho .transpose
    have t7 : is_diagonal e = false := op_is ho .diagonal
    have t8 : is_windows e = false := op_is ho .windows
    have t9 : is_chunk e = false := op_is ho .chunk
    have t10 : is_index e = false := op_is ho .index
    have t11 : is_update e = false := op_is ho .update
    have t12 : is_pack e = false := op_is ho .pack
    have hi0 := hi0 (by simp [ix])
    clear hi1
    clear hz
    clear hnum
    have hlen := hlen (by simp [ix])
    obtain ⟨d, h1, h2⟩ := h
    obtain ⟨a1, ha1, hd1⟩ := dim0 h1
    obtain ⟨b, a, ha, hd⟩ := dat0 h2
    obtain rfl := Option.some.inj (ha1.symm.trans ha)
    have hln := hlen a1 d ha hd1
    rw [← hln] at hd b
    refine meets_of (X := false) Ty.mixed Try.func45 (by kernel_rfl) rfl (by kernel_rfl) (by simp) ?_; rw [Try.ntmps45, Try.results45]
    simp only [zz,zN,zA,zu,zp,zB,zL,zO,zP,zm,zn,zr,zt,zw,zI,zq,zo,zD,zQ,zE,zF,keepOp,pureOp,apureO,aev,cv,cvc,binK,zR,elO_none,lenA,lenK,zG,zJ,zK,zS,zH,notExit,zx,zy,zM,argT,zc,↓reduceIte,za,zb,zf,zd,zj,zg,zh,zi,true_and,and_true,and_self,ne_eq,not_false_eq_true,reduceCtorEq,Nat.reduceAdd,Nat.reduceEqDiff,zk,Int.reduceToNat,Option.isSome_some,zl,Ty.td3,Ty.td22,Ty.td25,Ty.td29,t0,t1,t2,t3,t4,t5,t6,t7,t8,t9,t10,t11,t12,ze,List.length_map,encA,hi0,ha,hd]
    try (repeat first | exact b | exact b0 | omega | refine ⟨?_, ?_⟩)
  case append =>
    have t0 : is_iota e = false := op_is ho .iota
    have t1 : is_fill e = false := op_is ho .fill
    have t2 : is_take e = false := op_is ho .take
    have t3 : is_drop e = false := op_is ho .drop
    have t4 : is_reverse e = false := op_is ho .reverse
    have t5 : is_append e = true := op_is ho .append
    have t6 : is_transpose e = false := op_is ho .transpose
    have t7 : is_diagonal e = false := op_is ho .diagonal
    have t8 : is_windows e = false := op_is ho .windows
    have t9 : is_chunk e = false := op_is ho .chunk
    have t10 : is_index e = false := op_is ho .index
    have t11 : is_update e = false := op_is ho .update
    have t12 : is_pack e = false := op_is ho .pack
    have hi0 := hi0 (by simp [ix])
    clear hi1
    clear hz
    clear hnum
    have hlen := hlen (by simp [ix])
    obtain ⟨d, h1, h2⟩ := h
    obtain ⟨a1, ha1, hd1⟩ := dim0 h1
    have hln := hlen a1 d ha1 hd1
    subst hln
    by_cases hx : x < (a1.2.2.length : Int)
    · rw [if_pos hx] at h2
      obtain ⟨b, a, ha, hd⟩ := dat0 h2
      obtain rfl := Option.some.inj (ha1.symm.trans ha)
      refine meets_of (X := false) Ty.mixed Try.func45 (by kernel_rfl) rfl (by kernel_rfl) (by simp) ?_; rw [Try.ntmps45, Try.results45]
      simp only [zz,zN,zA,zu,zp,zB,zL,zO,zP,zm,zn,zr,zt,zw,zI,zq,zo,zD,zQ,zE,zF,keepOp,pureOp,apureO,aev,cv,cvc,binK,zR,elO_none,lenA,lenK,zG,zJ,zK,zS,zH,notExit,zx,zy,zM,argT,zc,↓reduceIte,za,zb,zf,zd,zj,zg,zh,zi,true_and,and_true,and_self,ne_eq,not_false_eq_true,reduceCtorEq,Nat.reduceAdd,Nat.reduceEqDiff,zk,Int.reduceToNat,Option.isSome_some,decide_true,zl,Ty.td3,Ty.td22,Ty.td25,Ty.td29,t0,t1,t2,t3,t4,t5,t6,t7,t8,t9,t10,t11,t12,ze,List.length_map,encA,hi0,ha1,hx,hd]
      try (repeat first | exact b | exact b0 | omega | refine ⟨?_, ?_⟩)
    · rw [if_neg hx] at h2
      obtain ⟨b, a, ha, hd⟩ := dat1 h2
      refine meets_of (X := false) Ty.mixed Try.func45 (by kernel_rfl) rfl (by kernel_rfl) (by simp) ?_; rw [Try.ntmps45, Try.results45]
      simp only [awp_skip,zz,zN,zA,zu,zp,zB,zL,zO,zP,zm,zn,zr,zt,zw,zI,zq,zo,zD,zQ,zE,zF,keepOp,pureOp,apureO,aev,cv,cvc,binK,zR,elO_none,lenA,lenK,zG,zJ,zK,zS,zH,notExit,zx,zy,zM,argT,zc,↓reduceIte,za,zb,zf,zd,zj,zg,zh,zi,true_and,and_true,and_self,ne_eq,not_false_eq_true,reduceCtorEq,Nat.reduceAdd,Nat.reduceEqDiff,zk,Int.reduceToNat,Option.isSome_some,decide_false,zl,Ty.td3,Ty.td22,Ty.td25,Ty.td29,t0,t1,t2,t3,t4,t5,t6,t7,t8,t9,t10,t11,t12,ze,List.length_map,encA,hi0,ha1,ha,hx,hd]
      try (repeat first | exact b | exact b0 | omega | refine ⟨?_, ?_⟩)
  case transpose =>
    have t0 : is_iota e = false := op_is ho .iota
    have t1 : is_fill e = false := op_is ho .fill
    have t2 : is_take e = false := op_is ho .take
    have t3 : is_drop e = false := op_is ho .drop
    have t4 : is_reverse e = false := op_is ho .reverse
    have t5 : is_append e = false := op_is ho .append
    have t6 : is_transpose e = true := op_is ho .transpose
    have t7 : is_diagonal e = false := op_is ho .diagonal
    have t8 : is_windows e = false := op_is ho .windows
    have t9 : is_chunk e = false := op_is ho .chunk
    have t10 : is_index e = false := op_is ho .index
    have t11 : is_update e = false := op_is ho .update
    have t12 : is_pack e = false := op_is ho .pack
    have hi0 := hi0 (by simp [ix])
    have hi1 := hi1 (by simp [ix])
    clear hz
    clear hnum
    obtain ⟨d, h1, h2⟩ := h
    obtain ⟨a1, ha1, hd1⟩ := dim1 h1
    obtain ⟨b, a, ha, hd⟩ := dat0 h2
    obtain rfl := Option.some.inj (ha1.symm.trans ha)
    refine meets_of (X := false) Ty.mixed Try.func45 (by kernel_rfl) rfl (by kernel_rfl) (by simp) ?_; rw [Try.ntmps45, Try.results45]
    simp only [zz,zN,zA,zu,zp,zB,zL,zO,zP,zm,zn,zr,zt,zw,zI,zq,zo,zD,zQ,zE,zF,keepOp,pureOp,apureO,aev,cv,cvc,binK,zR,zG,zJ,zK,zS,zH,notExit,zx,zy,zM,argT,zc,↓reduceIte,za,zb,zf,zd,zj,zg,zh,zi,true_and,and_true,and_self,ne_eq,not_false_eq_true,reduceCtorEq,Nat.reduceAdd,Nat.reduceEqDiff,zk,Int.reduceToNat,zl,Ty.td3,Ty.td22,Ty.td25,Ty.td29,t0,t1,t2,t3,t4,t5,t6,t7,t8,t9,t10,t11,t12,ze,encA,hi0,hi1,ha1,hd1,hd]
    try (repeat first | exact b | exact b0 | omega | refine ⟨?_, ?_⟩)
  case diagonal =>
    have t0 : is_iota e = false := op_is ho .iota
    have t1 : is_fill e = false := op_is ho .fill
    have t2 : is_take e = false := op_is ho .take
    have t3 : is_drop e = false := op_is ho .drop
    have t4 : is_reverse e = false := op_is ho .reverse
    have t5 : is_append e = false := op_is ho .append
    have t6 : is_transpose e = false := op_is ho .transpose
    have t7 : is_diagonal e = true := op_is ho .diagonal
    have t8 : is_windows e = false := op_is ho .windows
    have t9 : is_chunk e = false := op_is ho .chunk
    have t10 : is_index e = false := op_is ho .index
    have t11 : is_update e = false := op_is ho .update
    have t12 : is_pack e = false := op_is ho .pack
    have hi0 := hi0 (by simp [ix])
    clear hi1
    clear hz
    clear hnum
    obtain ⟨d, h1, h2⟩ := h
    obtain ⟨a1, ha1, hd0⟩ := dim0 h1
    have hd1 := hdg rfl a1 d ha1 hd0
    obtain ⟨b, a, ha, hd⟩ := dat0 h2
    obtain rfl := Option.some.inj (ha1.symm.trans ha)
    refine meets_of (X := false) Ty.mixed Try.func45 (by kernel_rfl) rfl (by kernel_rfl) (by simp) ?_; rw [Try.ntmps45, Try.results45]
    simp only [zz,zN,zA,zu,zp,zB,zL,zO,zP,zm,zn,zr,zt,zw,zI,zq,zo,zD,zQ,zE,zF,keepOp,pureOp,apureO,aev,cv,cvc,binK,zR,zG,zJ,zK,zS,zH,notExit,zx,zy,zM,argT,zc,↓reduceIte,za,zb,zf,zd,zj,zg,zh,zi,true_and,and_true,and_self,ne_eq,not_false_eq_true,reduceCtorEq,Nat.reduceAdd,Nat.reduceEqDiff,zk,Int.reduceToNat,zl,Ty.td3,Ty.td22,Ty.td25,Ty.td29,t0,t1,t2,t3,t4,t5,t6,t7,t8,t9,t10,t11,t12,ze,encA,hi0,ha1,hd1,hd]
    try (repeat first | exact b | exact b0 | omega | refine ⟨?_, ?_⟩)
  case windows =>
    have t0 : is_iota e = false := op_is ho .iota
    have t1 : is_fill e = false := op_is ho .fill
    have t2 : is_take e = false := op_is ho .take
    have t3 : is_drop e = false := op_is ho .drop
    have t4 : is_reverse e = false := op_is ho .reverse
    have t5 : is_append e = false := op_is ho .append
    have t6 : is_transpose e = false := op_is ho .transpose
    have t7 : is_diagonal e = false := op_is ho .diagonal
    have t8 : is_windows e = true := op_is ho .windows
    have t9 : is_chunk e = false := op_is ho .chunk
    have t10 : is_index e = false := op_is ho .index
    have t11 : is_update e = false := op_is ho .update
    have t12 : is_pack e = false := op_is ho .pack
    have hi0 := hi0 (by simp [ix])
    have hi1 := hi1 (by simp [ix])
    clear hz
    clear hnum
    obtain ⟨b, a, ha, hd⟩ := dat0 h
    refine meets_of (X := false) Ty.mixed Try.func45 (by kernel_rfl) rfl (by kernel_rfl) (by simp) ?_; rw [Try.ntmps45, Try.results45]
    simp only [zz,zN,zA,zu,zp,zB,zL,zO,zP,zm,zn,zr,zt,zw,zI,zq,zo,zD,zQ,zE,zF,keepOp,pureOp,apureO,aev,cv,cvc,binK,zR,zG,zJ,zK,zS,zH,notExit,zx,zy,zM,argT,zc,↓reduceIte,za,zb,zf,zd,zj,zg,zh,zi,true_and,and_true,and_self,ne_eq,not_false_eq_true,reduceCtorEq,Nat.reduceAdd,Nat.reduceEqDiff,zk,Int.reduceToNat,zl,Ty.td3,Ty.td22,Ty.td25,Ty.td29,t0,t1,t2,t3,t4,t5,t6,t7,t8,t9,t10,t11,t12,ze,encA,hi0,hi1,ha,hd]
    try (repeat first | exact b | exact b0 | omega | refine ⟨?_, ?_⟩)
  case chunk =>
    have t0 : is_iota e = false := op_is ho .iota
    have t1 : is_fill e = false := op_is ho .fill
    have t2 : is_take e = false := op_is ho .take
    have t3 : is_drop e = false := op_is ho .drop
    have t4 : is_reverse e = false := op_is ho .reverse
    have t5 : is_append e = false := op_is ho .append
    have t6 : is_transpose e = false := op_is ho .transpose
    have t7 : is_diagonal e = false := op_is ho .diagonal
    have t8 : is_windows e = false := op_is ho .windows
    have t9 : is_chunk e = true := op_is ho .chunk
    have t10 : is_index e = false := op_is ho .index
    have t11 : is_update e = false := op_is ho .update
    have t12 : is_pack e = false := op_is ho .pack
    have hi0 := hi0 (by simp [ix])
    have hi1 := hi1 (by simp [ix])
    clear hz
    have hnum := hnum rfl
    subst hnum
    obtain ⟨b, a, ha, hd⟩ := dat0 h
    refine meets_of (X := false) Ty.mixed Try.func45 (by kernel_rfl) rfl (by kernel_rfl) (by simp) ?_; rw [Try.ntmps45, Try.results45]
    simp only [zz,zN,zA,zu,zp,zB,zL,zO,zP,zm,zn,zr,zt,zw,zI,zq,zo,zD,zQ,zE,zF,keepOp,pureOp,apureO,aev,cv,cvc,binK,zR,zG,zJ,zK,zS,zH,notExit,zx,zy,zM,argT,zc,↓reduceIte,za,zb,zf,zd,zj,zg,zh,zi,true_and,and_true,and_self,ne_eq,not_false_eq_true,reduceCtorEq,Nat.reduceAdd,Nat.reduceEqDiff,zk,Int.reduceToNat,zl,Ty.td3,Ty.td22,Ty.td25,Ty.td29,t0,t1,t2,t3,t4,t5,t6,t7,t8,t9,t10,t11,t12,ze,encA,hi0,hi1,ha,hd]
    try (repeat first | exact b | exact b0 | omega | refine ⟨?_, ?_⟩)
  case index =>
    have t0 : is_iota e = false := op_is ho .iota
    have t1 : is_fill e = false := op_is ho .fill
    have t2 : is_take e = false := op_is ho .take
    have t3 : is_drop e = false := op_is ho .drop
    have t4 : is_reverse e = false := op_is ho .reverse
    have t5 : is_append e = false := op_is ho .append
    have t6 : is_transpose e = false := op_is ho .transpose
    have t7 : is_diagonal e = false := op_is ho .diagonal
    have t8 : is_windows e = false := op_is ho .windows
    have t9 : is_chunk e = false := op_is ho .chunk
    have t10 : is_index e = true := op_is ho .index
    have t11 : is_update e = false := op_is ho .update
    have t12 : is_pack e = false := op_is ho .pack
    unfold isNm at hn
    rw [show is_index e = true from t10] at hn
    simp at hn
  case update =>
    have t0 : is_iota e = false := op_is ho .iota
    have t1 : is_fill e = false := op_is ho .fill
    have t2 : is_take e = false := op_is ho .take
    have t3 : is_drop e = false := op_is ho .drop
    have t4 : is_reverse e = false := op_is ho .reverse
    have t5 : is_append e = false := op_is ho .append
    have t6 : is_transpose e = false := op_is ho .transpose
    have t7 : is_diagonal e = false := op_is ho .diagonal
    have t8 : is_windows e = false := op_is ho .windows
    have t9 : is_chunk e = false := op_is ho .chunk
    have t10 : is_index e = false := op_is ho .index
    have t11 : is_update e = true := op_is ho .update
    have t12 : is_pack e = false := op_is ho .pack
    unfold isNm at hn
    rw [show is_update e = true from t11] at hn
    simp at hn
  case pack =>
    have t0 : is_iota e = false := op_is ho .iota
    have t1 : is_fill e = false := op_is ho .fill
    have t2 : is_take e = false := op_is ho .take
    have t3 : is_drop e = false := op_is ho .drop
    have t4 : is_reverse e = false := op_is ho .reverse
    have t5 : is_append e = false := op_is ho .append
    have t6 : is_transpose e = false := op_is ho .transpose
    have t7 : is_diagonal e = false := op_is ho .diagonal
    have t8 : is_windows e = false := op_is ho .windows
    have t9 : is_chunk e = false := op_is ho .chunk
    have t10 : is_index e = false := op_is ho .index
    have t11 : is_update e = false := op_is ho .update
    have t12 : is_pack e = true := op_is ho .pack
    have hi0 := hi0 (by simp [ix])
    clear hi1
    clear hz
    clear hnum
    obtain ⟨b0, b, a, ha, hd⟩ := h
    replace hd : a.2.2[0]? = some r := hd
    refine meets_of (X := false) Ty.mixed Try.func45 (by kernel_rfl) rfl (by kernel_rfl) (by simp) ?_; rw [Try.ntmps45, Try.results45]
    simp only [awp_skip,zz,zA,zu,zp,zB,zL,blkQ_n,zm,zn,zw,zD,zQ,zE,zF,pureOp,apureO,aev,cv,cvc,binK,zR,zG,zK,zS,zH,notExit,zx,zy,zM,argT,zc,↓reduceIte,za,zb,zf,zd,zj,zg,zh,zi,true_and,and_true,and_self,ne_eq,not_false_eq_true,reduceCtorEq,Nat.reduceAdd,Nat.reduceEqDiff,zk,Int.reduceToNat,zl,Ty.td3,Ty.td22,Ty.td25,Ty.td29,t0,t1,t2,t3,t4,t5,t6,t7,t8,t9,t10,t11,t12,ze,encA,hi0,ha,hd]
    try (repeat first | exact b | exact b0 | omega | refine ⟨?_, ?_⟩)
end Go.Proofs.Ytbmmemglkjeogaa.S34
