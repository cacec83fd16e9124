/- Structure: the dimensions of a result, with the checks. -/
import Derived.Test.YtbmmemglkjeogaaS7
namespace Go.Proofs.Ytbmmemglkjeogaa.S8
open Go Go.Proofs.Ytbmmemglkjeogaa.Eng Go.Proofs.Ytbmmemglkjeogaa Go.RowKit Go.Proofs.Ytbmmemglkjeogaa.A1 Go.Proofs.Ytbmmemglkjeogaa.A2 Go.Proofs.Ytbmmemglkjeogaa.A3 Go.Proofs.Ytbmmemglkjeogaa.S1 Go.Proofs.Ytbmmemglkjeogaa.S2 Go.Proofs.Ytbmmemglkjeogaa.S3 Go.Proofs.Ytbmmemglkjeogaa.S4 Go.Proofs.Ytbmmemglkjeogaa.S5 Go.Proofs.Ytbmmemglkjeogaa.S6 Go.Proofs.Ytbmmemglkjeogaa.S7
set_option linter.unusedSimpArgs false
set_option linter.unusedVariables false
set_option linter.unusedSectionVars false
set_option maxRecDepth 100000

abbrev lists (L : List (List Int)) : AV := .sl false 1 (L.map fun d => [ints d])
def rank (o : Op13) (i : Nat) : Int := if (ix o == 12) = true then 0 else (rk o).getD i 0
/-- Are the ranks right? -/
def rankB (o : Op13) : List (List Int) → Nat → Bool
  | [], _ => true
  | d :: l, i => !((d.length : Int) != rank o i) && rankB o l (i + 1)
/-- The first error of a size. -/
def szE : List (List Int) → Int
  | [] => 0
  | d :: l => if (sizeE d).2 ≠ 0 then (sizeE d).2 else szE l
def kOf (o : Op13) (zs : List Int) (num : Int) (nc : Nat) : Int := if 0 < sz o then zs.getD 0 0 else if (ix o == 12) = true then nc else num
def rdE (o : Op13) (zs : List Int) (num : Int) (L : List (List Int)) : List Int × Int :=
  if rankB o L 0 = false then ([], 13)
  else if szE L ≠ 0 then ([], szE L)
  else if (dm o (kOf o zs num L.length) L.flatten).2 ≠ 0 then ([], (dm o (kOf o zs num L.length) L.flatten).2)
  else if (sizeE (dm o (kOf o zs num L.length) L.flatten).1).2 ≠ 0 then ([], (sizeE (dm o (kOf o zs num L.length) L.flatten).1).2)
  else ((dm o (kOf o zs num L.length) L.flatten).1, 0)

/-- The form is right. -/
def formB (o : Op13) (ns nc : Nat) (num : Int) : Bool := (if (ix o == 12) = true then decide ((0 : Int) < nc) else (((rk o).length : Int) == (nc : Int))) && !((ns : Int) != sz o) && !((num != 0) && !(ix o == 9))

theorem rank_ex {o : Op13} {nc i : Nat} {ns : Nat} {num : Int} (h : formB o ns nc num = true) (hi : i < nc) (h12 : (ix o == 12) = false) : (rk o)[i]? = some (rank o i) := by
  unfold formB at h
  unfold rank
  rw [h12] at h ⊢
  simp only [Bool.false_eq_true, if_false, Bool.and_eq_true, beq_iff_eq] at h ⊢
  have hl : (rk o).length = nc := by omega
  rw [List.getD_eq_getElem?_getD, List.getElem?_eq_getElem (by omega)]
  rfl

theorem flat_len {o : Op13} {ns : Nat} {num : Int} {L : List (List Int)} (h : formB o ns L.length num = true) (hr : rankB o L 0 = true) : L.flatten.length = (rk o).sum.toNat := by
  have hz : ∀ (L : List (List Int)) (i : Nat), ix o = 12 → rankB o L i = true → L.flatten.length = 0 := by
    intro L
    induction L with
    | nil => intros; rfl
    | cons d L ih =>
      intro i h1 h2
      rw [rankB, Bool.and_eq_true] at h2
      have := ih (i + 1) h1 h2.2
      have h3 := h2.1
      simp [rank, h1] at h3
      simp [h3] at this ⊢
      exact this
  by_cases h12 : ix o = 12
  · rw [hz L 0 h12 hr]
    cases o <;> simp_all [ix, rk]
  · unfold formB at h
    have h12' : (ix o == 12) = false := by simpa using h12
    rw [h12'] at h
    simp only [Bool.false_eq_true, if_false, Bool.and_eq_true, beq_iff_eq] at h
    have hl : (rk o).length = L.length := by omega
    clear h hz
    have hrk : ∀ i, rank o i = (rk o).getD i 0 := fun i => by unfold rank; rw [h12']; rfl
    have key : ∀ (L : List (List Int)) (i : Nat), L.length + i = (rk o).length → rankB o L i = true → (L.flatten.length : Int) = ((rk o).drop i).sum := by
      intro L
      induction L with
      | nil =>
        intro i h1 _
        rw [List.drop_eq_nil_of_le (by simp at h1; omega)]
        rfl
      | cons d L ih =>
        intro i h1 h2
        rw [rankB, Bool.and_eq_true] at h2
        simp only [List.length_cons] at h1
        have h3 := ih (i + 1) (by omega) h2.2
        have hi : i < (rk o).length := by omega
        rw [List.drop_eq_getElem_cons hi, List.sum_cons, List.flatten_cons, List.length_append]
        have h4 := h2.1
        rw [hrk, List.getD_eq_getElem?_getD, List.getElem?_eq_getElem hi] at h4
        simp at h4
        omega
    have := key L 0 (by omega) hr
    rw [List.drop_zero] at this
    omega

theorem szE_all : ∀ {L : List (List Int)}, szE L = 0 → ∀ d ∈ L, (sizeE d).2 = 0
  | [], _, _, h => by cases h
  | d :: l, h, x, hx => by
    unfold szE at h
    split at h
    · rename_i h1
      exact absurd h h1
    · rename_i h1
      rcases List.mem_cons.1 hx with rfl | hx
      · simpa using h1
      · exact szE_all h x hx

def nV (acc : List Int) (k : Nat) : AV := match k with | 0 => .nils | _ + 1 => .own 1 1 acc.length
def nH (o : Op13) (acc : List Int) (k : Nat) : Heap := match k with
  | 0 => [some (.var 63 [ints (rk o), I (sz o), .fn (dF o) (dC o), .fn (eF o) []])]
  | _ + 1 => [some (.var 63 [ints (rk o), I (sz o), .fn (dF o) (dC o), .fn (eF o) []]), some (.row 3 1 (acc.map enc))]
abbrev rd0 (x : List Int × Int) : AV := if x.2 ≠ 0 then .tup [.nils, I x.2] else .tup [ints x.1, I 0]
theorem rd0_imp {x : List Int × Int} (h0 : x.2 ≠ 0 → x.1 = []) (ok : Nat → Prop) (w : World) (v : Value) (h : RepD ok w (rd0 x) v) : RepD ok w (twoI x) v := by
  unfold rd0 at h
  obtain ⟨l, k⟩ := x
  simp only at h h0 ⊢
  split at h
  · rename_i hk
    rw [h0 hk]
    exact tup_imp (fun _ => cons_imp (fun _ => nil_imp) fun _ h => h) h
  · rename_i hk
    have : k = 0 := by simpa using hk
    rw [this]
    exact h
theorem rdE_nil {o : Op13} {zs : List Int} {num : Int} {L : List (List Int)} : (rdE o zs num L).2 ≠ 0 → (rdE o zs num L).1 = [] := by
  unfold rdE
  split
  · exact fun _ => rfl
  split
  · exact fun _ => rfl
  split
  · exact fun _ => rfl
  split
  · exact fun _ => rfl
  · intro h; exact absurd rfl h

theorem dm_len (o : Op13) (k : Int) (ns : List Int) : (dm o k ns).1.length ≤ 2 := by
  cases o <;> simp only [dm, wi] <;> (repeat' split) <;> simp

theorem kdc (h : Heap) (ks : List Nat) (o : Op13) : killL h ks (dC o) = dC o := by cases o <;> rfl
theorem tdc (h : Heap) (o : Op13) : toDL h (dC o) = some (dC o) := by cases o <;> rfl
theorem odc (o : Op13) : ownsL (dC o) = [] := by cases o <;> rfl
theorem size_len6 {ds : List Int} (h : (sizeE ds).2 = 0) : ds.length ≤ 6 := by
  unfold sizeE at h
  split at h
  · simp at h
  · omega

set_option maxHeartbeats 1000000 in
theorem resultDims_ {e : ByteArray} {o : Op13} {zs : List Int} {num : Int} {L : List (List Int)} (ho : opOf e = some o) (hform : formB o zs.length L.length num = true) (hl : L.length ≤ 1000000) (hd : ∀ d ∈ L, d.length ≤ 1000000) :
    Meets Try.prog 36 [S e, ints zs, I num, lists L] (twoI (rdE o zs num L)) := by
  refine Meets.weak (r0 := rd0 (rdE o zs num L)) ?_ (rd0_imp rdE_nil)
  have hf := find_row e
  rw [ho] at hf
  simp only at hf
  have hp : is_pack e = (ix o == 12) := op_is ho .pack
  have hrx := fun i => @rank_ex o L.length i zs.length num hform
  have hfl := @flat_len o zs.length num L hform
  have hzs : (zs.length : Int) = sz o := by
    unfold formB at hform
    simp only [Bool.and_eq_true] at hform
    simpa using hform.1.2
  have hdm := dims_ o (kOf o zs num L.length) L.flatten
  have hdl := dm_len o (kOf o zs num L.length) L.flatten
  unfold rdE
  generalize hpk : (ix o == 12) = pk at *
  refine meets_of (X := false) Ty.mixed Try.func36 (by kernel_rfl) rfl (by kernel_rfl) (by simp) ?_; rw [Try.ntmps36, Try.results36]
  simp only [awp_reg, awp_seq, seqQ_n, awpOps_nil, awpOps_one, awpOp_is, isCallV, callW_is, callV_is, putK_is, put_s, slot_is, pureOp, apureO, aev, cv, cvc, argT, Bool.false_eq_true, ↓reduceIte, List.map_cons, List.map_nil, List.append_nil, ne_eq, reduceCtorEq, Nat.reduceAdd, Nat.zero_add]
  refine call_meets (hf) (by simp only [aev, cv, cvc, toD_c, consO_some, toDL_nil, toDL_cons] <;> rfl) ?_; simp only [awp_reg, awp_seq, awp_block, awp_loop, seqQ_n, awpOps_nil, awpOps_one, awpOp_is, isCallV, putK_is, updK_is, put_s, upd_n, upd_s, slot_is, pureOp, apureO, astepO, killT, aev, cv, cvc, elO_s, lenA, lenK, storeA, cellsA, cellOk, setAll, flat_c, flat_tup, flat_agg, flat_sl, flat_fn, flatL_nil, flatL_cons, ownsV_c, ownsL_nil, ownsL_cons, Bool.false_eq_true, ↓reduceIte, List.getElem?_cons_zero, List.getElem?_cons_succ, List.length_cons, List.length_nil, List.map_cons, List.map_nil, List.nil_append, List.append_nil, List.set_cons_zero, List.set_cons_succ, List.all_cons, List.all_nil, Bool.and_true, Bool.true_and, Bool.and_false, Bool.and_self, Bool.or_true, Value.oneCell', true_and, and_true, and_self, reduceCtorEq, Nat.reduceAdd, Nat.reduceEqDiff, Nat.zero_add, List.isEmpty_nil, Option.isSome_some, Nat.le_refl, Ty.td35, Ty.td63, List.length_map]
  refine loop_k (fun k : Nat => k ≤ L.length ∧ rankB o L 0 = rankB o (L.drop k) k) (fun k => ⟨100, [(32, I k), (31, I L.length), (30, lists L), (0, S e), (1, ints zs), (2, I num), (3, lists L), (10, .ptr 0 0)], nH o [] 0⟩) (fun k => L.length - k) 0 ⟨Nat.zero_le _, rfl⟩ (by simp only [slot_is, aev, cv, cvc, Weak, ↓reduceIte, Bool.and_true, Bool.and_self, and_true, and_self, reduceCtorEq, Nat.reduceEqDiff] <;> simp) rfl rfl ?_
  rintro k ⟨hk, hi⟩ K hK
  simp only at hK
  simp only [awp_reg, awp_seq, awp_cond, seqQ_n, awpOps_nil, awpOps_one, awpOp_is, putK_is, put_s, slot_is, pureOp, apureO, aev, cv, cvc, binK, ↓reduceIte, Bool.true_and, true_and, Nat.reduceEqDiff]
  refine condA_dec (fun hlt => ?_) (fun hge => ?_)
  · have hlt' : k < L.length := by omega
    have hx : L[k]? = some L[k] := List.getElem?_eq_getElem hlt'
    rw [List.drop_eq_getElem_cons hlt', rankB] at hi
    have hr := hrx k hlt'
    have hrr : ((rk o).map enc)[k]? = (rk o)[k]?.map enc := List.getElem?_map ..
    generalize L[k] = x at *
    cases hb : ((x.length : Int) != rank o k) with
    | true =>
      rw [hb] at hi
      rw [if_pos (by simpa using hi)]
      have hb' := hb
      unfold rank at hb'
      rw [hpk] at hb'
      cases pk with
      | true =>
        simp only [if_true] at hb'
        simp only [awp_skip, awp_reg, awp_seq, awp_cond, awp_block, awp_ret, seqQ_n, seqQ_r, loopQ_r, blkQ_r, awpOps_nil, awpOps_one, awpOp_is, putK_is, put_s, slot_is, retA_is, pureOp, apureO, aev, cv, cvc, binK, elO_s, elO_none, lenA, lenK, loadA_d, condA_t, condA_f, toD_c, toD_nils, toD_tup, consO_some, toDL_nil, toDL_cons, notExit, resA_nil, resA_tmp, oneA_2, Int.natCast_nonneg, Bool.false_eq_true, ↓reduceIte, List.getElem?_cons_zero, Option.map_some, Bool.true_and, Bool.not_true, true_and, ne_eq, reduceCtorEq, Nat.reduceEqDiff, Int.toNat_natCast, Option.isSome_some, Ty.td22, Ty.td35, nH, List.getElem?_map, hx, hp, List.length_map, hb', rd0]
        try simp
      | false =>
        rw [hr rfl] at hrr
        simp only [Option.map_some] at hrr
        simp only [awp_skip, awp_reg, awp_seq, awp_cond, awp_block, awp_ret, seqQ_n, seqQ_r, loopQ_r, blkQ_r, awpOps_nil, awpOps_one, awpOp_is, putK_is, put_s, slot_is, retA_is, pureOp, apureO, aev, cv, cvc, binK, elO_s, elO_none, lenA, lenK, loadA_d, loadA_p, condA_t, toD_c, toD_nils, toD_tup, consO_some, toDL_nil, toDL_cons, notExit, resA_nil, resA_tmp, oneA_2, Int.natCast_nonneg, Bool.false_eq_true, ↓reduceIte, List.getElem?_cons_zero, List.length_cons, List.length_nil, Option.map_some, Bool.true_and, Bool.not_false, true_and, ne_eq, not_false_eq_true, reduceCtorEq, Nat.reduceAdd, Nat.reduceEqDiff, Nat.zero_add, Int.toNat_natCast, Option.isSome_some, Ty.td3, Ty.td22, Ty.td35, Ty.td63, nH, List.getElem?_map, hx, hp, hr rfl, List.length_map, hb, rd0]
        try simp
    | false =>
      rw [hb] at hi
      have hb' := hb
      unfold rank at hb'
      rw [hpk] at hb'
      cases pk with
      | true =>
        simp only [if_true] at hb'
        simp only [awp_skip, awp_reg, awp_seq, awp_cond, awp_block, seqQ_n, loopQ_n, blkQ_n, awpOps_nil, awpOps_one, awpOp_is, putK_is, put_s, slot_is, pureOp, apureO, aev, cv, cvc, binK, elO_s, elO_none, lenA, lenK, loadA_d, condA_f, Int.natCast_nonneg, Bool.false_eq_true, ↓reduceIte, List.getElem?_cons_zero, Option.map_some, Bool.true_and, Bool.not_true, true_and, reduceCtorEq, Nat.reduceEqDiff, Int.toNat_natCast, Option.isSome_some, Ty.td22, Ty.td35, nH, List.getElem?_map, hx, hp, List.length_map, hb', wrap_in (x := (k : Int) + 1) (by omega) (by omega)]
        refine hK (k + 1) _ ⟨hlt', by simpa using hi⟩ (by omega) ?_ rfl rfl
        simp only [slot_is, aev, cv, cvc, Weak, ↓reduceIte, Bool.and_true, Bool.and_self, and_true, and_self, reduceCtorEq, Nat.reduceEqDiff]
        simp
      | false =>
        simp only [awp_skip, awp_reg, awp_seq, awp_cond, awp_block, seqQ_n, loopQ_n, blkQ_n, awpOps_nil, awpOps_one, awpOp_is, putK_is, put_s, slot_is, pureOp, apureO, aev, cv, cvc, binK, elO_s, elO_none, lenA, lenK, loadA_d, loadA_p, condA_t, condA_f, Int.natCast_nonneg, Bool.false_eq_true, ↓reduceIte, List.getElem?_cons_zero, List.length_cons, List.length_nil, Option.map_some, Bool.true_and, Bool.not_false, true_and, ne_eq, not_false_eq_true, reduceCtorEq, Nat.reduceAdd, Nat.reduceEqDiff, Nat.zero_add, Int.toNat_natCast, Option.isSome_some, Ty.td3, Ty.td22, Ty.td35, Ty.td63, nH, List.getElem?_map, hx, hp, hr rfl, List.length_map, hb, wrap_in (x := (k : Int) + 1) (by omega) (by omega)]
        refine hK (k + 1) _ ⟨hlt', by simpa using hi⟩ (by omega) ?_ rfl rfl
        simp only [slot_is, aev, cv, cvc, Weak, ↓reduceIte, Bool.and_true, Bool.and_self, and_true, and_self, reduceCtorEq, Nat.reduceEqDiff]
        simp
  · have hk' : k = L.length := by omega
    subst hk'
    rw [List.drop_length, rankB] at hi
    rw [if_neg (by simp [hi])]
    have hfl := hfl hi
    have hdm := hdm hfl
    simp only [awp_reg, awp_seq, awp_block, awp_loop, awp_exit, seqQ_n, seqQ_e, loopQ_e, blkQ_e, awpOps_nil, awpOps_one, awpOp_is, putK_is, put_s, slot_is, pureOp, apureO, aev, cv, cvc, elO_s, lenA, lenK, ↓reduceIte, Bool.true_and, true_and, reduceCtorEq, Nat.reduceEqDiff, Option.isSome_some, Ty.td35, List.length_map]
    refine loop_g (fun k : Nat => k ≤ L.length ∧ szE L = szE (L.drop k) ∧ ((L.take k).flatten.length ≤ k * 6)) (fun k => ⟨100, [(51, I k), (50, I L.length), (49, lists L), (15, nV (L.take k).flatten k), (0, S e), (1, ints zs), (2, I num), (3, lists L), (10, .ptr 0 0)], nH o (L.take k).flatten k⟩) (fun k => L.length - k) 0 ⟨Nat.zero_le _, rfl, by simp⟩ (by simp only [slot_is, aev, cv, cvc, Weak, ↓reduceIte, Bool.and_true, Bool.and_self, and_true, and_self, reduceCtorEq, Nat.reduceEqDiff, nV] <;> simp) rfl (.inl (by simp [nH])) ?_
    rintro k ⟨hk, hi2, hfk⟩ K2 hK2
    simp only at hK2
    simp only [awp_reg, awp_seq, awp_cond, seqQ_n, awpOps_nil, awpOps_one, awpOp_is, putK_is, put_s, slot_is, pureOp, apureO, aev, cv, cvc, binK, ↓reduceIte, Bool.true_and, true_and, Nat.reduceEqDiff]
    refine condA_dec (fun hlt => ?_) (fun hge => ?_)
    · have hlt' : k < L.length := by omega
      have hx : L[k]? = some L[k] := List.getElem?_eq_getElem hlt'
      rw [List.drop_eq_getElem_cons hlt', szE] at hi2
      have hs := size L[k] (hd _ (List.getElem_mem _))
      have hnx := hK2 (k + 1)
      rw [List.take_succ_eq_append_getElem hlt', List.flatten_append, List.flatten_singleton] at hnx
      have hs6 := @size_len6 L[k]
      generalize L[k] = x at *
      generalize sizeE x = z at *
      obtain ⟨n, z⟩ := z
      simp only at hi2 hs6
      by_cases hz : z = 0
      · subst hz
        rw [if_neg (by simp)] at hi2
        have hs6 := hs6 rfl
        generalize (L.take k).flatten = acc at *
        cases k with
        | zero =>
          obtain rfl : acc = [] := List.eq_nil_of_length_eq_zero (by omega)
          simp only [awp_skip, awp_reg, awp_seq, awp_block, seqQ_n, awpOps_nil, awpOps_one, awpOp_is, isCallV, callW_is, callV_is, putK_is, put_s, slot_is, pureOp, apureO, aev, cv, cvc, elO_s, loadA_d, Int.natCast_nonneg, Bool.false_eq_true, ↓reduceIte, List.getElem?_cons_zero, List.map_cons, List.map_nil, List.append_nil, Option.map_some, Bool.true_and, true_and, Nat.reduceEqDiff, Int.toNat_natCast, Ty.td22, Ty.td35, nV, nH, List.getElem?_map, hx]
          refine call_meets (hs) (by simp only [aev, cv, cvc, toD_sl, consO_some, toDL_nil, toDL_cons, wrap_in (x := ((0 : Nat) : Int) + 1) (by omega) (by omega)] <;> rfl) ?_; simp only [awp_skip, awp_reg, awp_seq, awp_cond, seqQ_n, loopQ_n, blkQ_n, awpOps_nil, awpOps_one, awpOp_is, isCallV, putK_is, updK_is, put_s, upd_s, slot_is, pureOp, apureO, astepO, appA_sl, appV, killT, aev, cv, cvc, binK, elO_s, condA_f, elemsA, elemsN, flat_c, flat_tup, flatL_nil, flatL_cons, ownsV_sl, ownsL_nil, ownsL_cons, Bool.false_eq_true, ↓reduceIte, List.getElem?_cons_zero, List.getElem?_cons_succ, List.length_cons, List.length_nil, List.cons_append, List.nil_append, List.append_nil, Bool.true_and, Bool.and_self, Bool.or_true, true_and, and_self, Nat.reduceLT, Nat.reduceEqDiff, Nat.zero_add, List.isEmpty_nil, Ty.td3, Ty.td22, bne_self_eq_false, List.length_map, wrap_in (x := ((0 : Nat) : Int) + 1) (by omega) (by omega)]
          refine ⟨by omega, by omega, ?_⟩
          refine hnx _ ⟨hlt', hi2, by simp; omega⟩ (by omega) ?_ rfl (.inl (by simp [nH, kdc]))
          simp only [slot_is, aev, cv, cvc, Weak, ↓reduceIte, List.nil_append, Bool.and_true, Bool.and_self, and_true, and_self, reduceCtorEq, Nat.reduceEqDiff, Nat.zero_add, nV]
          simp
        | succ k =>
          have hbt : List.take acc.length (List.map enc acc) = List.map enc acc := List.take_of_length_le (by simp)
          simp only [awp_skip, awp_reg, awp_seq, awp_block, seqQ_n, awpOps_nil, awpOps_one, awpOp_is, isCallV, callW_is, callV_is, putK_is, put_s, slot_is, pureOp, apureO, aev, cv, cvc, elO_s, loadA_d, Int.natCast_nonneg, Bool.false_eq_true, ↓reduceIte, List.getElem?_cons_zero, List.map_cons, List.map_nil, List.append_nil, Option.map_some, Bool.true_and, true_and, Nat.reduceEqDiff, Int.toNat_natCast, Ty.td22, Ty.td35, nV, nH, List.getElem?_map, hx]
          refine call_meets (hs) (by simp only [aev, cv, cvc, toD_sl, consO_some, toDL_nil, toDL_cons, hbt, wrap_in (x := ((k + 1 : Nat) : Int) + 1) (by omega) (by omega)] <;> rfl) ?_; simp only [awp_skip, awp_reg, awp_seq, awp_cond, seqQ_n, loopQ_n, blkQ_n, awpOps_nil, awpOps_one, awpOp_is, isCallV, putK_is, updK_is, put_s, upd_s, slot_is, pureOp, apureO, astepO, appA_sl, appV, killT, killB, killH, aev, cv, cvc, binK, elO_s, condA_f, elemsA, elemsN, rowE, flat_c, flat_tup, flatL_nil, flatL_cons, ownsV_sl, ownsL_nil, ownsL_cons, killV_c, killV_tup, killV_sl, killV_own, killV_fn, killV_dptr, killV_ptr, killL_nil, killL_cons, Bool.false_eq_true, ↓reduceIte, List.getElem?_cons_zero, List.getElem?_cons_succ, List.length_cons, List.length_nil, List.map_cons, List.map_nil, List.append_nil, List.set_cons_zero, List.set_cons_succ, Option.map_some, Bool.true_and, Bool.and_self, Bool.or_true, Bool.or_false, true_and, and_self, reduceCtorEq, Nat.reduceLT, Nat.reduceEqDiff, Nat.zero_add, List.isEmpty_nil, List.mem_cons, List.not_mem_nil, or_false, Nat.le_refl, List.getElem?_nil, Ty.td3, Ty.td22, bne_self_eq_false, List.length_map, hbt, wrap_in (x := ((k + 1 : Nat) : Int) + 1) (by omega) (by omega)]
          refine ⟨by omega, by omega, ?_⟩
          refine hnx _ ⟨hlt', hi2, by simp; omega⟩ (by omega) ?_ rfl (.inl (by simp [nH, kdc]))
          simp only [slot_is, aev, cv, cvc, Weak, ↓reduceIte, Bool.and_true, Bool.true_and, Bool.and_self, true_and, and_true, and_self, reduceCtorEq, Nat.reduceEqDiff, nV]
          simp
      · rw [if_pos hz] at hi2
        rw [if_pos (by rw [hi2]; exact hz), hi2]
        generalize (L.take k).flatten = acc at *
        cases k with
        | zero =>
          simp only [awp_skip, awp_reg, awp_seq, awp_block, seqQ_n, awpOps_nil, awpOps_one, awpOp_is, isCallV, callW_is, callV_is, putK_is, put_s, slot_is, pureOp, apureO, aev, cv, cvc, elO_s, loadA_d, Int.natCast_nonneg, Bool.false_eq_true, ↓reduceIte, List.getElem?_cons_zero, List.map_cons, List.map_nil, List.append_nil, Option.map_some, Bool.true_and, true_and, Nat.reduceEqDiff, Int.toNat_natCast, Ty.td22, Ty.td35, nV, nH, List.getElem?_map, hx]
          refine call_meets (hs) (by simp only [aev, cv, cvc, toD_sl, consO_some, toDL_nil, toDL_cons, show (z != 0) = true by simpa using hz, rd0] <;> rfl) ?_; simp only [awp_reg, awp_seq, awp_cond, awp_ret, seqQ_n, seqQ_r, loopQ_r, blkQ_r, awpOps_nil, awpOps_one, awpOp_is, putK_is, put_s, upd_s, slot_is, retA_is, pureOp, apureO, killT, aev, cv, cvc, binK, elO_s, condA_t, flat_c, flat_tup, flatL_nil, flatL_cons, ownsV_sl, ownsL_nil, ownsL_cons, toD_c, toD_nils, toD_tup, consO_some, toDL_nil, toDL_cons, notExit, resA_nil, resA_tmp, oneA_2, ↓reduceIte, List.getElem?_cons_zero, List.getElem?_cons_succ, List.append_nil, Option.map_some, Bool.true_and, Bool.and_self, Bool.or_true, true_and, and_self, ne_eq, Nat.reduceEqDiff, List.isEmpty_nil, show (z != 0) = true by simpa using hz, rd0]
          try simp [hz]
        | succ k =>
          simp only [awp_skip, awp_reg, awp_seq, awp_block, seqQ_n, awpOps_nil, awpOps_one, awpOp_is, isCallV, callW_is, callV_is, putK_is, put_s, slot_is, pureOp, apureO, aev, cv, cvc, elO_s, loadA_d, Int.natCast_nonneg, Bool.false_eq_true, ↓reduceIte, List.getElem?_cons_zero, List.map_cons, List.map_nil, List.append_nil, Option.map_some, Bool.true_and, true_and, Nat.reduceEqDiff, Int.toNat_natCast, Ty.td22, Ty.td35, nV, nH, List.getElem?_map, hx]
          refine call_meets (hs) (by simp only [aev, cv, cvc, toD_sl, consO_some, toDL_nil, toDL_cons, show (z != 0) = true by simpa using hz, rd0] <;> rfl) ?_; simp only [awp_reg, awp_seq, awp_cond, awp_ret, seqQ_n, seqQ_r, loopQ_r, blkQ_r, awpOps_nil, awpOps_one, awpOp_is, putK_is, put_s, upd_s, slot_is, retA_is, pureOp, apureO, killT, aev, cv, cvc, binK, elO_s, condA_t, flat_c, flat_tup, flatL_nil, flatL_cons, ownsV_sl, ownsL_nil, ownsL_cons, toD_c, toD_nils, toD_tup, consO_some, toDL_nil, toDL_cons, notExit, resA_nil, resA_tmp, oneA_2, ↓reduceIte, List.getElem?_cons_zero, List.getElem?_cons_succ, List.append_nil, Option.map_some, Bool.true_and, Bool.and_self, Bool.or_true, true_and, and_self, ne_eq, Nat.reduceEqDiff, List.isEmpty_nil, show (z != 0) = true by simpa using hz, rd0]
          try simp [hz]
    · have hk' : k = L.length := by omega
      subst hk'
      rw [List.drop_length, szE] at hi2
      rw [if_neg (by simp [hi2]), List.take_length]
      have hz0 : (0 < sz o) ∨ (¬ 0 < sz o ∧ pk = true) ∨ (¬ 0 < sz o ∧ pk = false) := by cases pk <;> simp <;> omega
      have hkv : ∃ kv, kOf o zs num L.length = kv := ⟨_, rfl⟩
      obtain ⟨kv, hkv⟩ := hkv
      have hkv2 := hkv
      unfold kOf at hkv2
      rw [hpk] at hkv2
      rw [hkv] at hdm hdl ⊢
      have hsz := size (dm o kv L.flatten).1 (by omega)
      generalize dm o kv L.flatten = d at *
      obtain ⟨out, er⟩ := d
      simp only at hdm hdl hsz ⊢
      generalize sizeE out = z at *
      obtain ⟨n, z⟩ := z
      have hL0 : L.length = 0 → L.flatten = [] := fun h => by rw [List.eq_nil_of_length_eq_zero h]; rfl
      generalize L.flatten = acc at *
      have hdm0 : acc = [] → Meets Try.prog (dF o) ([I kv, .nils] ++ dC o) (twoI (out, er)) := fun h => by
        subst h
        exact Meets.nil (pre := [I kv]) (post := dC o) hdm
      obtain ⟨len, hlen⟩ : ∃ len, L.length = len := ⟨_, rfl⟩
      have fin : er ≠ 0 ∨ (er = 0 ∧ z ≠ 0) ∨ (er = 0 ∧ z = 0) := by omega
      have hzs0 : 0 < sz o → ∃ z0, zs[0]? = some z0 ∧ kv = z0 := fun h => by
        rw [if_pos h] at hkv2
        have : 0 < zs.length := by omega
        exact ⟨zs[0], List.getElem?_eq_getElem this, by rw [← hkv2, List.getD_eq_getElem?_getD, List.getElem?_eq_getElem this]; rfl⟩
      subst hlen
      rcases hz0 with h | ⟨h, hpt⟩ | ⟨h, hpt⟩
      · obtain ⟨z0, hz1, rfl⟩ := hzs0 h
        clear hkv2 hkv hzs0
        cases hLl : L.length with
        | zero =>
          obtain rfl := hL0 hLl
          have hm := hdm0 rfl
          try rw [hLl] at hm
          simp only [awp_reg, awp_seq, awp_cond, awp_block, awp_exit, seqQ_n, seqQ_e, loopQ_e, blkQ_n, blkQ_e, awpOps_nil, awpOps_one, awpOp_is, isCallV, callW_is, callV_is, putK_is, put_s, slot_is, pureOp, apureO, aev, cv, cvc, binK, elO_s, loadA_d, loadA_p, condA_t, Bool.false_eq_true, ↓reduceIte, List.getElem?_cons_zero, List.getElem?_cons_succ, List.length_cons, List.length_nil, List.map_cons, List.map_nil, List.cons_append, List.nil_append, Option.map_some, Bool.true_and, true_and, ne_eq, not_false_eq_true, reduceCtorEq, Nat.reduceAdd, Nat.reduceEqDiff, Nat.zero_add, Int.reduceToNat, decide_true, Int.le_refl, Ty.td3, Ty.td22, Ty.td60, Ty.td63, nV, nH, h, List.getElem?_map, hz1, hLl]
          refine call_meets hm (by simp only [aev, cv, cvc, toD_c, toD_nils, consO_some, toDL_cons, List.cons_append, List.nil_append, tdc]) ?_
          have hfl2 : ∀ er : Int, flat (twoI (out, er)) = false := fun _ => rfl
          rcases fin with h1 | ⟨h1, h2⟩ | ⟨h1, h2⟩
          · rw [if_pos h1]
            simp only [awp_reg, awp_seq, awp_cond, awp_ret, seqQ_n, seqQ_r, awpOps_nil, awpOps_one, awpOp_is, putK_is, put_s, upd_s, slot_is, retA_is, pureOp, apureO, killT, aev, cv, cvc, binK, elO_s, condA_t, ownsV_c, ownsV_nils, ownsL_cons, toD_c, toD_nils, toD_tup, consO_some, toDL_nil, toDL_cons, notExit, resA_nil, resA_tmp, oneA_2, ↓reduceIte, List.getElem?_cons_zero, List.getElem?_cons_succ, List.append_nil, Option.map_some, Bool.true_and, Bool.or_true, true_and, ne_eq, Nat.reduceEqDiff, List.isEmpty_nil, odc, kdc, hfl2, show (er != 0) = true by simpa using h1, rd0]
            try simp [h1]
          · subst h1
            rw [if_neg (show ¬ ((0 : Int) ≠ 0) by simp), if_pos h2]
            simp only [awp_skip, awp_reg, awp_seq, awp_cond, seqQ_n, awpOps_nil, awpOps_one, awpOp_is, isCallV, callW_is, callV_is, putK_is, put_s, upd_s, slot_is, pureOp, apureO, killT, aev, cv, cvc, binK, elO_s, condA_f, ownsV_c, ownsV_nils, ownsL_cons, Bool.false_eq_true, ↓reduceIte, List.getElem?_cons_zero, List.getElem?_cons_succ, List.map_cons, List.map_nil, List.append_nil, Bool.true_and, Bool.or_true, true_and, Nat.reduceEqDiff, List.isEmpty_nil, odc, kdc, hfl2, bne_self_eq_false]
            refine call_meets (hsz) (by simp only [aev, cv, cvc, toD_sl, consO_some, toDL_nil, toDL_cons, show (z != 0) = true by simpa using h2, rd0] <;> rfl) ?_; simp only [awp_reg, awp_seq, awp_cond, awp_ret, seqQ_n, seqQ_r, awpOps_nil, awpOps_one, awpOp_is, putK_is, put_s, upd_s, slot_is, retA_is, pureOp, apureO, killT, aev, cv, cvc, binK, elO_s, condA_t, flat_c, flat_tup, flatL_nil, flatL_cons, ownsV_sl, ownsL_nil, ownsL_cons, toD_c, toD_nils, toD_tup, consO_some, toDL_nil, toDL_cons, notExit, resA_nil, resA_tmp, oneA_2, ↓reduceIte, List.getElem?_cons_zero, List.getElem?_cons_succ, List.append_nil, Option.map_some, Bool.true_and, Bool.and_self, Bool.or_true, true_and, and_self, ne_eq, Nat.reduceEqDiff, List.isEmpty_nil, show (z != 0) = true by simpa using h2, rd0]
            try simp [h2]
          · subst h1 h2
            rw [if_neg (show ¬ ((0 : Int) ≠ 0) by simp), if_neg (show ¬ ((0 : Int) ≠ 0) by simp)]
            simp only [awp_skip, awp_reg, awp_seq, awp_cond, seqQ_n, awpOps_nil, awpOps_one, awpOp_is, isCallV, callW_is, callV_is, putK_is, put_s, upd_s, slot_is, pureOp, apureO, killT, aev, cv, cvc, binK, elO_s, condA_f, ownsV_c, ownsV_nils, ownsL_cons, Bool.false_eq_true, ↓reduceIte, List.getElem?_cons_zero, List.getElem?_cons_succ, List.map_cons, List.map_nil, List.append_nil, Bool.true_and, Bool.or_true, true_and, Nat.reduceEqDiff, List.isEmpty_nil, odc, kdc, hfl2, bne_self_eq_false]
            refine call_meets (hsz) (by simp only [aev, cv, cvc, toD_sl, consO_some, toDL_nil, toDL_cons, rd0] <;> rfl) ?_; simp only [awp_skip, awp_reg, awp_seq, awp_cond, awp_ret, seqQ_n, awpOps_nil, awpOps_one, awpOp_is, putK_is, put_s, upd_s, slot_is, retA_is, pureOp, apureO, killT, aev, cv, cvc, binK, elO_s, condA_f, flat_c, flat_tup, flatL_nil, flatL_cons, ownsV_sl, ownsL_nil, ownsL_cons, toD_c, toD_tup, toD_sl, consO_some, toDL_nil, toDL_cons, notExit, resA_nil, resA_tmp, oneA_2, ↓reduceIte, List.getElem?_cons_zero, List.getElem?_cons_succ, List.append_nil, Option.map_some, Bool.and_self, Bool.or_true, and_self, ne_eq, not_true_eq_false, Nat.reduceEqDiff, List.isEmpty_nil, bne_self_eq_false, rd0]
            try simp
        | succ k =>
          have hm := hdm
          try rw [hLl] at hm
          have hbt : List.take acc.length (List.map enc acc) = List.map enc acc := List.take_of_length_le (by simp)
          simp only [awp_reg, awp_seq, awp_cond, awp_block, awp_exit, seqQ_n, seqQ_e, loopQ_e, blkQ_n, blkQ_e, awpOps_nil, awpOps_one, awpOp_is, isCallV, callW_is, callV_is, putK_is, put_s, slot_is, pureOp, apureO, aev, cv, cvc, binK, elO_s, loadA_d, loadA_p, condA_t, Bool.false_eq_true, ↓reduceIte, List.getElem?_cons_zero, List.getElem?_cons_succ, List.length_cons, List.length_nil, List.map_cons, List.map_nil, List.cons_append, List.nil_append, Option.map_some, Bool.true_and, true_and, ne_eq, not_false_eq_true, reduceCtorEq, Nat.reduceAdd, Nat.reduceEqDiff, Nat.zero_add, Int.reduceToNat, decide_true, Int.le_refl, Ty.td3, Ty.td22, Ty.td60, Ty.td63, nV, nH, h, List.getElem?_map, hz1, hLl]
          refine call_meets hm (by simp only [aev, cv, cvc, elemsA, toD_c, toD_own, consO_some, toDL_cons, ↓reduceIte, List.getElem?_cons_zero, List.getElem?_cons_succ, List.cons_append, List.nil_append, Option.map_some, Bool.and_self, and_self, Nat.le_refl, tdc, List.length_map, hbt]) ?_
          have hfl2 : ∀ er : Int, flat (twoI (out, er)) = false := fun _ => rfl
          rcases fin with h1 | ⟨h1, h2⟩ | ⟨h1, h2⟩
          · rw [if_pos h1]
            simp only [awp_reg, awp_seq, awp_cond, awp_ret, seqQ_n, seqQ_r, awpOps_nil, awpOps_one, awpOp_is, putK_is, put_s, upd_s, slot_is, retA_is, pureOp, apureO, killT, killB, killH, aev, cv, cvc, binK, elO_s, condA_t, elemsA, dropL, ownsV_c, ownsV_own, ownsL_cons, toD_c, toD_nils, toD_tup, consO_some, toDL_nil, toDL_cons, killV_c, killV_sl, killV_own, killV_fn, killV_dptr, killV_ptr, killL_nil, killL_cons, notExit, resA_nil, resA_tmp, oneA_2, Bool.false_eq_true, ↓reduceIte, List.getElem?_cons_zero, List.getElem?_cons_succ, List.map_cons, List.map_nil, List.nil_append, List.append_nil, Option.map_some, Option.map_none, Bool.true_and, Bool.or_false, true_and, ne_eq, reduceCtorEq, Nat.reduceAdd, Nat.reduceEqDiff, Nat.zero_add, List.isEmpty_cons, List.mem_cons, List.not_mem_nil, or_false, List.zipIdx_cons, List.zipIdx_nil, odc, kdc, hfl2, show (er != 0) = true by simpa using h1, rd0]
            try simp [h1]
          · subst h1
            rw [if_neg (show ¬ ((0 : Int) ≠ 0) by simp), if_pos h2]
            simp only [awp_skip, awp_reg, awp_seq, awp_cond, seqQ_n, awpOps_nil, awpOps_one, awpOp_is, isCallV, callW_is, callV_is, putK_is, put_s, upd_s, slot_is, pureOp, apureO, killT, killB, killH, aev, cv, cvc, binK, elO_s, condA_f, elemsA, dropL, ownsV_c, ownsV_own, ownsL_cons, killV_c, killV_sl, killV_own, killV_fn, killV_dptr, killV_ptr, killL_nil, killL_cons, Bool.false_eq_true, ↓reduceIte, List.getElem?_cons_zero, List.getElem?_cons_succ, List.map_cons, List.map_nil, List.nil_append, List.append_nil, Option.map_some, Option.map_none, Bool.true_and, Bool.or_false, true_and, reduceCtorEq, Nat.reduceAdd, Nat.reduceEqDiff, Nat.zero_add, List.isEmpty_cons, List.mem_cons, List.not_mem_nil, or_false, List.zipIdx_cons, List.zipIdx_nil, odc, kdc, hfl2, bne_self_eq_false]
            refine call_meets (hsz) (by simp only [aev, cv, cvc, toD_sl, consO_some, toDL_nil, toDL_cons, show (z != 0) = true by simpa using h2, rd0] <;> rfl) ?_; simp only [awp_reg, awp_seq, awp_cond, awp_ret, seqQ_n, seqQ_r, awpOps_nil, awpOps_one, awpOp_is, putK_is, put_s, upd_s, slot_is, retA_is, pureOp, apureO, killT, aev, cv, cvc, binK, elO_s, condA_t, flat_c, flat_tup, flatL_nil, flatL_cons, ownsV_sl, ownsL_nil, ownsL_cons, toD_c, toD_nils, toD_tup, consO_some, toDL_nil, toDL_cons, notExit, resA_nil, resA_tmp, oneA_2, ↓reduceIte, List.getElem?_cons_zero, List.getElem?_cons_succ, List.append_nil, Option.map_some, Bool.true_and, Bool.and_self, Bool.or_true, true_and, and_self, ne_eq, Nat.reduceEqDiff, List.isEmpty_nil, show (z != 0) = true by simpa using h2, rd0]
            try simp [h2]
          · subst h1 h2
            rw [if_neg (show ¬ ((0 : Int) ≠ 0) by simp), if_neg (show ¬ ((0 : Int) ≠ 0) by simp)]
            simp only [awp_skip, awp_reg, awp_seq, awp_cond, seqQ_n, awpOps_nil, awpOps_one, awpOp_is, isCallV, callW_is, callV_is, putK_is, put_s, upd_s, slot_is, pureOp, apureO, killT, killB, killH, aev, cv, cvc, binK, elO_s, condA_f, elemsA, dropL, ownsV_c, ownsV_own, ownsL_cons, killV_c, killV_sl, killV_own, killV_fn, killV_dptr, killV_ptr, killL_nil, killL_cons, Bool.false_eq_true, ↓reduceIte, List.getElem?_cons_zero, List.getElem?_cons_succ, List.map_cons, List.map_nil, List.nil_append, List.append_nil, Option.map_some, Option.map_none, Bool.true_and, Bool.or_false, true_and, reduceCtorEq, Nat.reduceAdd, Nat.reduceEqDiff, Nat.zero_add, List.isEmpty_cons, List.mem_cons, List.not_mem_nil, or_false, List.zipIdx_cons, List.zipIdx_nil, odc, kdc, hfl2, bne_self_eq_false]
            refine call_meets (hsz) (by simp only [aev, cv, cvc, toD_sl, consO_some, toDL_nil, toDL_cons, rd0] <;> rfl) ?_; simp only [awp_skip, awp_reg, awp_seq, awp_cond, awp_ret, seqQ_n, awpOps_nil, awpOps_one, awpOp_is, putK_is, put_s, upd_s, slot_is, retA_is, pureOp, apureO, killT, aev, cv, cvc, binK, elO_s, condA_f, flat_c, flat_tup, flatL_nil, flatL_cons, ownsV_sl, ownsL_nil, ownsL_cons, toD_c, toD_tup, toD_sl, consO_some, toDL_nil, toDL_cons, notExit, resA_nil, resA_tmp, oneA_2, ↓reduceIte, List.getElem?_cons_zero, List.getElem?_cons_succ, List.append_nil, Option.map_some, Bool.and_self, Bool.or_true, and_self, ne_eq, not_true_eq_false, Nat.reduceEqDiff, List.isEmpty_nil, bne_self_eq_false, rd0]
            try simp
      · subst hpt
        rw [if_neg h, if_pos rfl] at hkv2
        clear hkv hzs0
        subst hkv2
        cases hLl : L.length with
        | zero =>
          obtain rfl := hL0 hLl
          have hm := hdm0 rfl
          try rw [hLl] at hm
          simp only [awp_reg, awp_seq, awp_cond, awp_block, awp_exit, seqQ_n, seqQ_e, loopQ_e, blkQ_n, blkQ_e, awpOps_nil, awpOps_one, awpOp_is, isCallV, callW_is, callV_is, putK_is, put_s, slot_is, pureOp, apureO, aev, cv, cvc, binK, elO_s, lenA, lenK, loadA_p, condA_t, condA_f, Bool.false_eq_true, ↓reduceIte, List.getElem?_cons_zero, List.getElem?_cons_succ, List.length_cons, List.length_nil, List.map_cons, List.map_nil, List.cons_append, List.nil_append, Bool.true_and, true_and, ne_eq, not_false_eq_true, reduceCtorEq, Nat.reduceAdd, Nat.reduceEqDiff, Nat.zero_add, Option.isSome_some, decide_false, Ty.td3, Ty.td35, Ty.td60, Ty.td63, nV, nH, h, hp, List.length_map, hLl]
          refine call_meets hm (by simp only [aev, cv, cvc, toD_c, toD_nils, consO_some, toDL_cons, List.cons_append, List.nil_append, tdc]) ?_
          have hfl2 : ∀ er : Int, flat (twoI (out, er)) = false := fun _ => rfl
          rcases fin with h1 | ⟨h1, h2⟩ | ⟨h1, h2⟩
          · rw [if_pos h1]
            simp only [awp_reg, awp_seq, awp_cond, awp_ret, seqQ_n, seqQ_r, awpOps_nil, awpOps_one, awpOp_is, putK_is, put_s, upd_s, slot_is, retA_is, pureOp, apureO, killT, aev, cv, cvc, binK, elO_s, condA_t, ownsV_c, ownsV_nils, ownsL_cons, toD_c, toD_nils, toD_tup, consO_some, toDL_nil, toDL_cons, notExit, resA_nil, resA_tmp, oneA_2, ↓reduceIte, List.getElem?_cons_zero, List.getElem?_cons_succ, List.append_nil, Option.map_some, Bool.true_and, Bool.or_true, true_and, ne_eq, Nat.reduceEqDiff, List.isEmpty_nil, odc, kdc, hfl2, show (er != 0) = true by simpa using h1, rd0]
            try simp [h1]
          · subst h1
            rw [if_neg (show ¬ ((0 : Int) ≠ 0) by simp), if_pos h2]
            simp only [awp_skip, awp_reg, awp_seq, awp_cond, seqQ_n, awpOps_nil, awpOps_one, awpOp_is, isCallV, callW_is, callV_is, putK_is, put_s, upd_s, slot_is, pureOp, apureO, killT, aev, cv, cvc, binK, elO_s, condA_f, ownsV_c, ownsV_nils, ownsL_cons, Bool.false_eq_true, ↓reduceIte, List.getElem?_cons_zero, List.getElem?_cons_succ, List.map_cons, List.map_nil, List.append_nil, Bool.true_and, Bool.or_true, true_and, Nat.reduceEqDiff, List.isEmpty_nil, odc, kdc, hfl2, bne_self_eq_false]
            refine call_meets (hsz) (by simp only [aev, cv, cvc, toD_sl, consO_some, toDL_nil, toDL_cons, show (z != 0) = true by simpa using h2, rd0] <;> rfl) ?_; simp only [awp_reg, awp_seq, awp_cond, awp_ret, seqQ_n, seqQ_r, awpOps_nil, awpOps_one, awpOp_is, putK_is, put_s, upd_s, slot_is, retA_is, pureOp, apureO, killT, aev, cv, cvc, binK, elO_s, condA_t, flat_c, flat_tup, flatL_nil, flatL_cons, ownsV_sl, ownsL_nil, ownsL_cons, toD_c, toD_nils, toD_tup, consO_some, toDL_nil, toDL_cons, notExit, resA_nil, resA_tmp, oneA_2, ↓reduceIte, List.getElem?_cons_zero, List.getElem?_cons_succ, List.append_nil, Option.map_some, Bool.true_and, Bool.and_self, Bool.or_true, true_and, and_self, ne_eq, Nat.reduceEqDiff, List.isEmpty_nil, show (z != 0) = true by simpa using h2, rd0]
            try simp [h2]
          · subst h1 h2
            rw [if_neg (show ¬ ((0 : Int) ≠ 0) by simp), if_neg (show ¬ ((0 : Int) ≠ 0) by simp)]
            simp only [awp_skip, awp_reg, awp_seq, awp_cond, seqQ_n, awpOps_nil, awpOps_one, awpOp_is, isCallV, callW_is, callV_is, putK_is, put_s, upd_s, slot_is, pureOp, apureO, killT, aev, cv, cvc, binK, elO_s, condA_f, ownsV_c, ownsV_nils, ownsL_cons, Bool.false_eq_true, ↓reduceIte, List.getElem?_cons_zero, List.getElem?_cons_succ, List.map_cons, List.map_nil, List.append_nil, Bool.true_and, Bool.or_true, true_and, Nat.reduceEqDiff, List.isEmpty_nil, odc, kdc, hfl2, bne_self_eq_false]
            refine call_meets (hsz) (by simp only [aev, cv, cvc, toD_sl, consO_some, toDL_nil, toDL_cons, rd0] <;> rfl) ?_; simp only [awp_skip, awp_reg, awp_seq, awp_cond, awp_ret, seqQ_n, awpOps_nil, awpOps_one, awpOp_is, putK_is, put_s, upd_s, slot_is, retA_is, pureOp, apureO, killT, aev, cv, cvc, binK, elO_s, condA_f, flat_c, flat_tup, flatL_nil, flatL_cons, ownsV_sl, ownsL_nil, ownsL_cons, toD_c, toD_tup, toD_sl, consO_some, toDL_nil, toDL_cons, notExit, resA_nil, resA_tmp, oneA_2, ↓reduceIte, List.getElem?_cons_zero, List.getElem?_cons_succ, List.append_nil, Option.map_some, Bool.and_self, Bool.or_true, and_self, ne_eq, not_true_eq_false, Nat.reduceEqDiff, List.isEmpty_nil, bne_self_eq_false, rd0]
            try simp
        | succ k =>
          have hm := hdm
          try rw [hLl] at hm
          have hbt : List.take acc.length (List.map enc acc) = List.map enc acc := List.take_of_length_le (by simp)
          simp only [awp_reg, awp_seq, awp_cond, awp_block, awp_exit, seqQ_n, seqQ_e, loopQ_e, blkQ_n, blkQ_e, awpOps_nil, awpOps_one, awpOp_is, isCallV, callW_is, callV_is, putK_is, put_s, slot_is, pureOp, apureO, aev, cv, cvc, binK, elO_s, lenA, lenK, loadA_p, condA_t, condA_f, Bool.false_eq_true, ↓reduceIte, List.getElem?_cons_zero, List.getElem?_cons_succ, List.length_cons, List.length_nil, List.map_cons, List.map_nil, List.cons_append, List.nil_append, Bool.true_and, true_and, ne_eq, not_false_eq_true, reduceCtorEq, Nat.reduceAdd, Nat.reduceEqDiff, Nat.zero_add, Option.isSome_some, decide_false, Ty.td3, Ty.td35, Ty.td60, Ty.td63, nV, nH, h, hp, List.length_map, hLl]
          refine call_meets hm (by simp only [aev, cv, cvc, elemsA, toD_c, toD_own, consO_some, toDL_cons, ↓reduceIte, List.getElem?_cons_zero, List.getElem?_cons_succ, List.cons_append, List.nil_append, Option.map_some, Bool.and_self, and_self, Nat.le_refl, tdc, List.length_map, hbt]) ?_
          have hfl2 : ∀ er : Int, flat (twoI (out, er)) = false := fun _ => rfl
          rcases fin with h1 | ⟨h1, h2⟩ | ⟨h1, h2⟩
          · rw [if_pos h1]
            simp only [awp_reg, awp_seq, awp_cond, awp_ret, seqQ_n, seqQ_r, awpOps_nil, awpOps_one, awpOp_is, putK_is, put_s, upd_s, slot_is, retA_is, pureOp, apureO, killT, killB, killH, aev, cv, cvc, binK, elO_s, condA_t, elemsA, dropL, ownsV_c, ownsV_own, ownsL_cons, toD_c, toD_nils, toD_tup, consO_some, toDL_nil, toDL_cons, killV_c, killV_sl, killV_own, killV_fn, killV_ptr, killL_nil, killL_cons, notExit, resA_nil, resA_tmp, oneA_2, Bool.false_eq_true, ↓reduceIte, List.getElem?_cons_zero, List.getElem?_cons_succ, List.map_cons, List.map_nil, List.nil_append, List.append_nil, Option.map_some, Option.map_none, Bool.true_and, Bool.or_false, true_and, ne_eq, reduceCtorEq, Nat.reduceAdd, Nat.reduceEqDiff, Nat.zero_add, List.isEmpty_cons, List.mem_cons, List.not_mem_nil, or_false, List.zipIdx_cons, List.zipIdx_nil, odc, kdc, hfl2, show (er != 0) = true by simpa using h1, rd0]
            try simp [h1]
          · subst h1
            rw [if_neg (show ¬ ((0 : Int) ≠ 0) by simp), if_pos h2]
            simp only [awp_skip, awp_reg, awp_seq, awp_cond, seqQ_n, awpOps_nil, awpOps_one, awpOp_is, isCallV, callW_is, callV_is, putK_is, put_s, upd_s, slot_is, pureOp, apureO, killT, killB, killH, aev, cv, cvc, binK, elO_s, condA_f, elemsA, dropL, ownsV_c, ownsV_own, ownsL_cons, killV_c, killV_sl, killV_own, killV_fn, killV_ptr, killL_nil, killL_cons, Bool.false_eq_true, ↓reduceIte, List.getElem?_cons_zero, List.getElem?_cons_succ, List.map_cons, List.map_nil, List.nil_append, List.append_nil, Option.map_some, Option.map_none, Bool.true_and, Bool.or_false, true_and, reduceCtorEq, Nat.reduceAdd, Nat.reduceEqDiff, Nat.zero_add, List.isEmpty_cons, List.mem_cons, List.not_mem_nil, or_false, List.zipIdx_cons, List.zipIdx_nil, odc, kdc, hfl2, bne_self_eq_false]
            refine call_meets (hsz) (by simp only [aev, cv, cvc, toD_sl, consO_some, toDL_nil, toDL_cons, show (z != 0) = true by simpa using h2, rd0] <;> rfl) ?_; simp only [awp_reg, awp_seq, awp_cond, awp_ret, seqQ_n, seqQ_r, awpOps_nil, awpOps_one, awpOp_is, putK_is, put_s, upd_s, slot_is, retA_is, pureOp, apureO, killT, aev, cv, cvc, binK, elO_s, condA_t, flat_c, flat_tup, flatL_nil, flatL_cons, ownsV_sl, ownsL_nil, ownsL_cons, toD_c, toD_nils, toD_tup, consO_some, toDL_nil, toDL_cons, notExit, resA_nil, resA_tmp, oneA_2, ↓reduceIte, List.getElem?_cons_zero, List.getElem?_cons_succ, List.append_nil, Option.map_some, Bool.true_and, Bool.and_self, Bool.or_true, true_and, and_self, ne_eq, Nat.reduceEqDiff, List.isEmpty_nil, show (z != 0) = true by simpa using h2, rd0]
            try simp [h2]
          · subst h1 h2
            rw [if_neg (show ¬ ((0 : Int) ≠ 0) by simp), if_neg (show ¬ ((0 : Int) ≠ 0) by simp)]
            simp only [awp_skip, awp_reg, awp_seq, awp_cond, seqQ_n, awpOps_nil, awpOps_one, awpOp_is, isCallV, callW_is, callV_is, putK_is, put_s, upd_s, slot_is, pureOp, apureO, killT, killB, killH, aev, cv, cvc, binK, elO_s, condA_f, elemsA, dropL, ownsV_c, ownsV_own, ownsL_cons, killV_c, killV_sl, killV_own, killV_fn, killV_ptr, killL_nil, killL_cons, Bool.false_eq_true, ↓reduceIte, List.getElem?_cons_zero, List.getElem?_cons_succ, List.map_cons, List.map_nil, List.nil_append, List.append_nil, Option.map_some, Option.map_none, Bool.true_and, Bool.or_false, true_and, reduceCtorEq, Nat.reduceAdd, Nat.reduceEqDiff, Nat.zero_add, List.isEmpty_cons, List.mem_cons, List.not_mem_nil, or_false, List.zipIdx_cons, List.zipIdx_nil, odc, kdc, hfl2, bne_self_eq_false]
            refine call_meets (hsz) (by simp only [aev, cv, cvc, toD_sl, consO_some, toDL_nil, toDL_cons, rd0] <;> rfl) ?_; simp only [awp_skip, awp_reg, awp_seq, awp_cond, awp_ret, seqQ_n, awpOps_nil, awpOps_one, awpOp_is, putK_is, put_s, upd_s, slot_is, retA_is, pureOp, apureO, killT, aev, cv, cvc, binK, elO_s, condA_f, flat_c, flat_tup, flatL_nil, flatL_cons, ownsV_sl, ownsL_nil, ownsL_cons, toD_c, toD_tup, toD_sl, consO_some, toDL_nil, toDL_cons, notExit, resA_nil, resA_tmp, oneA_2, ↓reduceIte, List.getElem?_cons_zero, List.getElem?_cons_succ, List.append_nil, Option.map_some, Bool.and_self, Bool.or_true, and_self, ne_eq, not_true_eq_false, Nat.reduceEqDiff, List.isEmpty_nil, bne_self_eq_false, rd0]
            try simp
      · subst hpt
        rw [if_neg h, if_neg (by simp)] at hkv2
        clear hkv hzs0
        subst hkv2
        cases hLl : L.length with
        | zero =>
          obtain rfl := hL0 hLl
          have hm := hdm0 rfl
          try rw [hLl] at hm
          simp only [awp_skip, awp_reg, awp_seq, awp_cond, awp_block, awp_exit, seqQ_n, seqQ_e, loopQ_e, blkQ_n, blkQ_e, awpOps_nil, awpOps_one, awpOp_is, isCallV, callW_is, callV_is, putK_is, put_s, slot_is, pureOp, apureO, aev, cv, cvc, binK, elO_s, loadA_p, condA_f, Bool.false_eq_true, ↓reduceIte, List.getElem?_cons_zero, List.getElem?_cons_succ, List.length_cons, List.length_nil, List.map_cons, List.map_nil, List.cons_append, List.nil_append, Bool.true_and, true_and, ne_eq, not_false_eq_true, reduceCtorEq, Nat.reduceAdd, Nat.reduceEqDiff, Nat.zero_add, decide_false, Ty.td3, Ty.td60, Ty.td63, nV, nH, h, hp, hLl]
          refine call_meets hm (by simp only [aev, cv, cvc, toD_c, toD_nils, consO_some, toDL_cons, List.cons_append, List.nil_append, tdc]) ?_
          have hfl2 : ∀ er : Int, flat (twoI (out, er)) = false := fun _ => rfl
          rcases fin with h1 | ⟨h1, h2⟩ | ⟨h1, h2⟩
          · rw [if_pos h1]
            simp only [awp_reg, awp_seq, awp_cond, awp_ret, seqQ_n, seqQ_r, awpOps_nil, awpOps_one, awpOp_is, putK_is, put_s, upd_s, slot_is, retA_is, pureOp, apureO, killT, aev, cv, cvc, binK, elO_s, condA_t, ownsV_c, ownsV_nils, ownsL_cons, toD_c, toD_nils, toD_tup, consO_some, toDL_nil, toDL_cons, notExit, resA_nil, resA_tmp, oneA_2, ↓reduceIte, List.getElem?_cons_zero, List.getElem?_cons_succ, List.append_nil, Option.map_some, Bool.true_and, Bool.or_true, true_and, ne_eq, Nat.reduceEqDiff, List.isEmpty_nil, odc, kdc, hfl2, show (er != 0) = true by simpa using h1, rd0]
            try simp [h1]
          · subst h1
            rw [if_neg (show ¬ ((0 : Int) ≠ 0) by simp), if_pos h2]
            simp only [awp_skip, awp_reg, awp_seq, awp_cond, seqQ_n, awpOps_nil, awpOps_one, awpOp_is, isCallV, callW_is, callV_is, putK_is, put_s, upd_s, slot_is, pureOp, apureO, killT, aev, cv, cvc, binK, elO_s, condA_f, ownsV_c, ownsV_nils, ownsL_cons, Bool.false_eq_true, ↓reduceIte, List.getElem?_cons_zero, List.getElem?_cons_succ, List.map_cons, List.map_nil, List.append_nil, Bool.true_and, Bool.or_true, true_and, Nat.reduceEqDiff, List.isEmpty_nil, odc, kdc, hfl2, bne_self_eq_false]
            refine call_meets (hsz) (by simp only [aev, cv, cvc, toD_sl, consO_some, toDL_nil, toDL_cons, show (z != 0) = true by simpa using h2, rd0] <;> rfl) ?_; simp only [awp_reg, awp_seq, awp_cond, awp_ret, seqQ_n, seqQ_r, awpOps_nil, awpOps_one, awpOp_is, putK_is, put_s, upd_s, slot_is, retA_is, pureOp, apureO, killT, aev, cv, cvc, binK, elO_s, condA_t, flat_c, flat_tup, flatL_nil, flatL_cons, ownsV_sl, ownsL_nil, ownsL_cons, toD_c, toD_nils, toD_tup, consO_some, toDL_nil, toDL_cons, notExit, resA_nil, resA_tmp, oneA_2, ↓reduceIte, List.getElem?_cons_zero, List.getElem?_cons_succ, List.append_nil, Option.map_some, Bool.true_and, Bool.and_self, Bool.or_true, true_and, and_self, ne_eq, Nat.reduceEqDiff, List.isEmpty_nil, show (z != 0) = true by simpa using h2, rd0]
            try simp [h2]
          · subst h1 h2
            rw [if_neg (show ¬ ((0 : Int) ≠ 0) by simp), if_neg (show ¬ ((0 : Int) ≠ 0) by simp)]
            simp only [awp_skip, awp_reg, awp_seq, awp_cond, seqQ_n, awpOps_nil, awpOps_one, awpOp_is, isCallV, callW_is, callV_is, putK_is, put_s, upd_s, slot_is, pureOp, apureO, killT, aev, cv, cvc, binK, elO_s, condA_f, ownsV_c, ownsV_nils, ownsL_cons, Bool.false_eq_true, ↓reduceIte, List.getElem?_cons_zero, List.getElem?_cons_succ, List.map_cons, List.map_nil, List.append_nil, Bool.true_and, Bool.or_true, true_and, Nat.reduceEqDiff, List.isEmpty_nil, odc, kdc, hfl2, bne_self_eq_false]
            refine call_meets (hsz) (by simp only [aev, cv, cvc, toD_sl, consO_some, toDL_nil, toDL_cons, rd0] <;> rfl) ?_; simp only [awp_skip, awp_reg, awp_seq, awp_cond, awp_ret, seqQ_n, awpOps_nil, awpOps_one, awpOp_is, putK_is, put_s, upd_s, slot_is, retA_is, pureOp, apureO, killT, aev, cv, cvc, binK, elO_s, condA_f, flat_c, flat_tup, flatL_nil, flatL_cons, ownsV_sl, ownsL_nil, ownsL_cons, toD_c, toD_tup, toD_sl, consO_some, toDL_nil, toDL_cons, notExit, resA_nil, resA_tmp, oneA_2, ↓reduceIte, List.getElem?_cons_zero, List.getElem?_cons_succ, List.append_nil, Option.map_some, Bool.and_self, Bool.or_true, and_self, ne_eq, not_true_eq_false, Nat.reduceEqDiff, List.isEmpty_nil, bne_self_eq_false, rd0]
            try simp
        | succ k =>
          have hm := hdm
          try rw [hLl] at hm
          have hbt : List.take acc.length (List.map enc acc) = List.map enc acc := List.take_of_length_le (by simp)
          simp only [awp_skip, awp_reg, awp_seq, awp_cond, awp_block, awp_exit, seqQ_n, seqQ_e, loopQ_e, blkQ_n, blkQ_e, awpOps_nil, awpOps_one, awpOp_is, isCallV, callW_is, callV_is, putK_is, put_s, slot_is, pureOp, apureO, aev, cv, cvc, binK, elO_s, loadA_p, condA_f, Bool.false_eq_true, ↓reduceIte, List.getElem?_cons_zero, List.getElem?_cons_succ, List.length_cons, List.length_nil, List.map_cons, List.map_nil, List.cons_append, List.nil_append, Bool.true_and, true_and, ne_eq, not_false_eq_true, reduceCtorEq, Nat.reduceAdd, Nat.reduceEqDiff, Nat.zero_add, decide_false, Ty.td3, Ty.td60, Ty.td63, nV, nH, h, hp, hLl]
          refine call_meets hm (by simp only [aev, cv, cvc, elemsA, toD_c, toD_own, consO_some, toDL_cons, ↓reduceIte, List.getElem?_cons_zero, List.getElem?_cons_succ, List.cons_append, List.nil_append, Option.map_some, Bool.and_self, and_self, Nat.le_refl, tdc, List.length_map, hbt]) ?_
          have hfl2 : ∀ er : Int, flat (twoI (out, er)) = false := fun _ => rfl
          rcases fin with h1 | ⟨h1, h2⟩ | ⟨h1, h2⟩
          · rw [if_pos h1]
            simp only [awp_reg, awp_seq, awp_cond, awp_ret, seqQ_n, seqQ_r, awpOps_nil, awpOps_one, awpOp_is, putK_is, put_s, upd_s, slot_is, retA_is, pureOp, apureO, killT, killB, killH, aev, cv, cvc, binK, elO_s, condA_t, elemsA, dropL, ownsV_c, ownsV_own, ownsL_cons, toD_c, toD_nils, toD_tup, consO_some, toDL_nil, toDL_cons, killV_c, killV_sl, killV_own, killV_fn, killV_ptr, killL_nil, killL_cons, notExit, resA_nil, resA_tmp, oneA_2, Bool.false_eq_true, ↓reduceIte, List.getElem?_cons_zero, List.getElem?_cons_succ, List.map_cons, List.map_nil, List.nil_append, List.append_nil, Option.map_some, Option.map_none, Bool.true_and, Bool.or_false, true_and, ne_eq, reduceCtorEq, Nat.reduceAdd, Nat.reduceEqDiff, Nat.zero_add, List.isEmpty_cons, List.mem_cons, List.not_mem_nil, or_false, List.zipIdx_cons, List.zipIdx_nil, odc, kdc, hfl2, show (er != 0) = true by simpa using h1, rd0]
            try simp [h1]
          · subst h1
            rw [if_neg (show ¬ ((0 : Int) ≠ 0) by simp), if_pos h2]
            simp only [awp_skip, awp_reg, awp_seq, awp_cond, seqQ_n, awpOps_nil, awpOps_one, awpOp_is, isCallV, callW_is, callV_is, putK_is, put_s, upd_s, slot_is, pureOp, apureO, killT, killB, killH, aev, cv, cvc, binK, elO_s, condA_f, elemsA, dropL, ownsV_c, ownsV_own, ownsL_cons, killV_c, killV_sl, killV_own, killV_fn, killV_ptr, killL_nil, killL_cons, Bool.false_eq_true, ↓reduceIte, List.getElem?_cons_zero, List.getElem?_cons_succ, List.map_cons, List.map_nil, List.nil_append, List.append_nil, Option.map_some, Option.map_none, Bool.true_and, Bool.or_false, true_and, reduceCtorEq, Nat.reduceAdd, Nat.reduceEqDiff, Nat.zero_add, List.isEmpty_cons, List.mem_cons, List.not_mem_nil, or_false, List.zipIdx_cons, List.zipIdx_nil, odc, kdc, hfl2, bne_self_eq_false]
            refine call_meets (hsz) (by simp only [aev, cv, cvc, toD_sl, consO_some, toDL_nil, toDL_cons, show (z != 0) = true by simpa using h2, rd0] <;> rfl) ?_; simp only [awp_reg, awp_seq, awp_cond, awp_ret, seqQ_n, seqQ_r, awpOps_nil, awpOps_one, awpOp_is, putK_is, put_s, upd_s, slot_is, retA_is, pureOp, apureO, killT, aev, cv, cvc, binK, elO_s, condA_t, flat_c, flat_tup, flatL_nil, flatL_cons, ownsV_sl, ownsL_nil, ownsL_cons, toD_c, toD_nils, toD_tup, consO_some, toDL_nil, toDL_cons, notExit, resA_nil, resA_tmp, oneA_2, ↓reduceIte, List.getElem?_cons_zero, List.getElem?_cons_succ, List.append_nil, Option.map_some, Bool.true_and, Bool.and_self, Bool.or_true, true_and, and_self, ne_eq, Nat.reduceEqDiff, List.isEmpty_nil, show (z != 0) = true by simpa using h2, rd0]
            try simp [h2]
          · subst h1 h2
            rw [if_neg (show ¬ ((0 : Int) ≠ 0) by simp), if_neg (show ¬ ((0 : Int) ≠ 0) by simp)]
            simp only [awp_skip, awp_reg, awp_seq, awp_cond, seqQ_n, awpOps_nil, awpOps_one, awpOp_is, isCallV, callW_is, callV_is, putK_is, put_s, upd_s, slot_is, pureOp, apureO, killT, killB, killH, aev, cv, cvc, binK, elO_s, condA_f, elemsA, dropL, ownsV_c, ownsV_own, ownsL_cons, killV_c, killV_sl, killV_own, killV_fn, killV_ptr, killL_nil, killL_cons, Bool.false_eq_true, ↓reduceIte, List.getElem?_cons_zero, List.getElem?_cons_succ, List.map_cons, List.map_nil, List.nil_append, List.append_nil, Option.map_some, Option.map_none, Bool.true_and, Bool.or_false, true_and, reduceCtorEq, Nat.reduceAdd, Nat.reduceEqDiff, Nat.zero_add, List.isEmpty_cons, List.mem_cons, List.not_mem_nil, or_false, List.zipIdx_cons, List.zipIdx_nil, odc, kdc, hfl2, bne_self_eq_false]
            refine call_meets (hsz) (by simp only [aev, cv, cvc, toD_sl, consO_some, toDL_nil, toDL_cons, rd0] <;> rfl) ?_; simp only [awp_skip, awp_reg, awp_seq, awp_cond, awp_ret, seqQ_n, awpOps_nil, awpOps_one, awpOp_is, putK_is, put_s, upd_s, slot_is, retA_is, pureOp, apureO, killT, aev, cv, cvc, binK, elO_s, condA_f, flat_c, flat_tup, flatL_nil, flatL_cons, ownsV_sl, ownsL_nil, ownsL_cons, toD_c, toD_tup, toD_sl, consO_some, toDL_nil, toDL_cons, notExit, resA_nil, resA_tmp, oneA_2, ↓reduceIte, List.getElem?_cons_zero, List.getElem?_cons_succ, List.append_nil, Option.map_some, Bool.and_self, Bool.or_true, and_self, ne_eq, not_true_eq_false, Nat.reduceEqDiff, List.isEmpty_nil, bne_self_eq_false, rd0]
            try simp
end Go.Proofs.Ytbmmemglkjeogaa.S8
