/- Cells: Join. -/
import Derived.Test.YtoobaeebgnbpjaaB1
import Derived.Test.YtoobaeebgnbpjaaB13
namespace Go.Proofs.Ytoobaeebgnbpjaa.B14
open Go Go.Proofs.Ytoobaeebgnbpjaa.Eng Go.Proofs.Ytoobaeebgnbpjaa Go.RowKit Go.Proofs.Ytoobaeebgnbpjaa.A1 Go.Proofs.Ytoobaeebgnbpjaa.A2 Go.Proofs.Ytoobaeebgnbpjaa.A3 Go.Proofs.Ytoobaeebgnbpjaa.A4 Go.Proofs.Ytoobaeebgnbpjaa.A5 Go.Proofs.Ytoobaeebgnbpjaa.B1
set_option linter.unusedSimpArgs false
set_option linter.unusedVariables false
set_option maxRecDepth 100000

def badA (a : Ar) : Bool := !(checkE a.1 a.2.1 a.2.2 == 0)
abbrev arrV (a : Ar) : AV := .agg (encA a)
abbrev smallA (a : Ar) : Prop := a.2.1.length ≤ 1000000 ∧ a.2.2.length ≤ 1000000

theorem ofE_ex (e : ByteArray) (ds xs : List Int) (hd : ds.length ≤ 1000000) (hx : xs.length ≤ 1000000) : ∃ E D X k, ofE e ds xs = .tup [arr E D X, I k] ∧ D.length ≤ 1000000 ∧ X.length ≤ 1000000 := by
  unfold ofE
  split
  · exact ⟨e, ds, xs, 0, rfl, hd, hx⟩
  · exact ⟨⟨#[]⟩, [], [], _, rfl, by simp, by simp⟩

theorem join1 (a : Ar) (h : smallA a) : Meets Try.prog 41 [arrV a] (B (badA a)) := by
  obtain ⟨e, ds, xs⟩ := a
  have hv := isValid e ds xs h.1 h.2
  refine meets_of Ty.mixed Try.func41 (by kernel_rfl) rfl (by kernel_rfl) (by simp) ?_; rw [Try.ntmps41, Try.results41]
  simp only [awp_reg, awp_seq, seqQ_n, awpOps_nil, awpOps_one, awpOp_is, isCallV, callW_is, callV_is, putK_is, updK_is, put_s, upd_s, slot_is, pureOp, apureO, astepO, killT, aev, cv, cvc, elO_s, loadA_p, cellsA, cellOk, argT, Bool.false_eq_true, ↓reduceIte, List.getElem?_cons_zero, List.length_cons, List.length_nil, List.map_cons, List.map_nil, List.nil_append, List.append_nil, List.take_succ_cons, List.drop_zero, Bool.true_and, true_and, Nat.reduceAdd, Nat.reduceEqDiff, Nat.zero_add, Nat.le_refl, List.take_nil, Ty.td24]
  refine call_meets (hv) (by simp only [aev, cv, cvc, toD_c, toD_agg, toD_sl, consO_some, toDL_nil, toDL_cons, Option.map_some]) ?_; simp only [awp_ret, seqQ_n, awpOps_nil, awpOps_one, awpOp_is, putK_is, put_s, upd_s, slot_is, retA_is, pureOp, apureO, killT, aev, cv, cvc, flat_c, ownsV_c, ownsV_agg, ownsV_sl, ownsL_nil, ownsL_cons, toD_c, notExit, resA_nil, resA_tmp, oneA_1, ↓reduceIte, List.append_nil, Bool.and_self, Bool.or_true, and_self, List.isEmpty_nil, badA]

/-- The first place, if there is one. -/
def idxA (p : Ar → Bool) : List Ar → Nat → Int
  | [], _ => -1
  | z :: zs, k => if p z then k else idxA p zs (k + 1)
theorem idxA_any (p : Ar → Bool) : ∀ (zs : List Ar) (k : Nat), decide (0 ≤ idxA p zs k) = zs.any p
  | [], _ => rfl
  | z :: zs, k => by
    unfold idxA
    cases h : p z
    · simp [h, idxA_any p zs (k + 1)]
    · simp [h]

theorem indexFuncA (l : List Ar) (hl : l.length ≤ 1000000) (hs : ∀ a ∈ l, smallA a) : Meets Try.prog 52 [arrs l, .fn 41 []] (I (idxA badA l 0)) := by
  refine meets_of Ty.mixed Try.func52 (by kernel_rfl) rfl (by kernel_rfl) (by simp) ?_; rw [Try.ntmps52, Try.results52]
  simp only [awp_reg, awp_seq, awp_block, awp_loop, seqQ_n, awpOps_nil, awpOps_one, awpOp_is, putK_is, put_s, slot_is, pureOp, apureO, aev, cv, cvc, elO_s, lenA, lenK, argT, ↓reduceIte, Bool.true_and, true_and, reduceCtorEq, Nat.zero_add, Option.isSome_some, Ty.td27, List.length_map]
  refine loop_k (fun k : Nat => k ≤ l.length ∧ idxA badA l 0 = idxA badA (l.drop k) k) (fun k => ⟨19, [(8, I k), (7, I l.length), (0, arrs l), (1, .fn 41 [])], []⟩) (fun k => l.length - k) 0 ⟨Nat.zero_le _, rfl⟩ (by simp only [slot_is, aev, cv, cvc, Weak, ↓reduceIte, Bool.and_true, Bool.and_self, and_true, and_self, reduceCtorEq, Nat.reduceEqDiff]; simp) rfl rfl ?_
  rintro k ⟨hk, hi⟩ K hK
  simp only [awp_reg, awp_seq, awp_cond, seqQ_n, awpOps_nil, awpOps_one, awpOp_is, putK_is, put_s, slot_is, pureOp, apureO, aev, cv, cvc, binK, ↓reduceIte, Bool.true_and, true_and, Nat.reduceEqDiff]
  refine condA_dec (fun hlt => ?_) (fun hge => ?_)
  · have hlt' : k < l.length := by omega
    have hx : l[k]? = some l[k] := List.getElem?_eq_getElem hlt'
    rw [List.drop_eq_getElem_cons hlt', idxA] at hi
    have hm := join1 l[k] (hs _ (List.getElem_mem hlt'))
    generalize l[k] = x at *
    simp only [awp_skip, awp_reg, awp_seq, awp_block, seqQ_n, awpOps_nil, awpOps_one, awpOp_is, isCallV, callW_is, callV_is, putK_is, put_s, slot_is, pureOp, apureO, aev, cv, cvc, elO_s, loadA_d, Int.natCast_nonneg, Bool.false_eq_true, ↓reduceIte, List.length_cons, List.length_nil, List.map_cons, List.map_nil, List.append_nil, Option.map_some, List.take_succ_cons, Bool.true_and, true_and, reduceCtorEq, Nat.reduceAdd, Nat.reduceEqDiff, Nat.zero_add, Int.toNat_natCast, Nat.le_refl, List.take_nil, Ty.td24, Ty.td27, List.getElem?_map, hx]
    refine call_meets hm (by simp only [aev, cv, cvc, toD_c, toD_agg, toD_sl, consO_some, toDL_nil, toDL_cons, Option.map_some]) ?_
    simp only [awp_cond, seqQ_n, awpOps_nil, upd_s, slot_is, killT, aev, cv, cvc, flat_c, ownsV_c, ownsV_agg, ownsV_sl, ownsL_nil, ownsL_cons, ↓reduceIte, List.append_nil, Bool.or_true, List.isEmpty_nil]
    cases hp : badA x
    · rw [hp] at hi
      simp only [awp_skip, awp_reg, seqQ_n, loopQ_n, blkQ_n, awpOps_nil, awpOps_one, awpOp_is, putK_is, put_s, slot_is, pureOp, apureO, aev, cv, cvc, binK, condA_f, ↓reduceIte, Bool.true_and, true_and, Nat.reduceEqDiff, wrap_in (x := (k : Int) + 1) (by omega) (by omega)]
      refine hK (k + 1) _ ⟨hlt', by simpa using hi⟩ (by omega) ?_ rfl rfl
      simp only [slot_is, aev, cv, cvc, Weak, ↓reduceIte, Bool.and_true, Bool.and_self, and_true, and_self, reduceCtorEq, Nat.reduceEqDiff]
      simp
    · rw [hp] at hi
      simp only [awp_reg, awp_seq, awp_ret, seqQ_n, seqQ_r, loopQ_r, blkQ_r, awpOps_nil, awpOps_one, awpOp_is, putK_is, put_s, slot_is, retA_is, pureOp, apureO, aev, cv, cvc, condA_t, toD_c, notExit, resA_nil, resA_tmp, oneA_1, ↓reduceIte, Bool.true_and, true_and, Nat.reduceEqDiff]
      simp [hi]
  · have hk' : k = l.length := by omega
    simp only [awp_reg, awp_seq, awp_exit, awp_ret, seqQ_n, seqQ_e, loopQ_e, blkQ_e, awpOps_nil, awpOps_one, awpOp_is, putK_is, put_s, slot_is, retA_is, pureOp, apureO, aev, cv, cvc, toD_c, notExit, resA_nil, resA_tmp, oneA_1, ↓reduceIte, Bool.true_and, true_and]
    rw [hi, hk']
    simp [idxA]

theorem containsA (l : List Ar) (hl : l.length ≤ 1000000) (hs : ∀ a ∈ l, smallA a) : Meets Try.prog 40 [arrs l, .fn 41 []] (B (l.any badA)) := by
  have h := indexFuncA l hl hs
  refine meets_of Ty.mixed Try.func40 (by kernel_rfl) rfl (by kernel_rfl) (by simp) ?_; rw [Try.ntmps40, Try.results40]
  simp only [awp_reg, awp_seq, seqQ_n, awpOps_nil, awpOps_one, awpOp_is, isCallV, callW_is, callV_is, putK_is, put_s, slot_is, pureOp, apureO, aev, cv, cvc, argT, Bool.false_eq_true, ↓reduceIte, List.map_cons, List.map_nil, List.append_nil, reduceCtorEq, Nat.reduceEqDiff, Nat.zero_add]
  refine call_meets (h) (by simp only [aev, cv, cvc, toD_sl, toD_fn, consO_some, toDL_nil, toDL_cons, Option.map_some]) ?_; simp only [awp_ret, seqQ_n, awpOps_nil, awpOps_one, awpOp_is, putK_is, put_s, upd_s, slot_is, retA_is, pureOp, apureO, killT, aev, cv, cvc, binK, flat_c, ownsV_sl, ownsV_fn, ownsL_nil, ownsL_cons, toD_c, notExit, resA_nil, resA_tmp, oneA_1, ↓reduceIte, List.append_nil, Bool.and_self, Bool.or_true, and_self, List.isEmpty_nil, idxA_any]

/-- The data of cells behind one another. -/
def joinD (e : ByteArray) (ds : List Int) : List Ar → List Int → List Int × Int
  | [], acc => (acc, 0)
  | c :: l, acc => if (c.1.toList == e.toList) = false then ([], 12) else if (c.2.1 == ds) = false then ([], 14) else joinD e ds l (acc ++ c.2.2)
abbrev zeroK (k : Int) : AV := .tup [arr ⟨#[]⟩ [] [], I k]
def joinE (fr : List Int) (l : List Ar) (s : Ar) : AV :=
  if badA s || l.any badA then zeroK 1
  else if (sizeE fr).2 ≠ 0 then zeroK (sizeE fr).2
  else if ¬ (l.length : Int) = (sizeE fr).1 then zeroK 1
  else if (joinD s.1 s.2.1 l []).2 ≠ 0 then zeroK (joinD s.1 s.2.1 l []).2
  else if (sizeE (fr ++ s.2.1)).2 ≠ 0 then zeroK (sizeE (fr ++ s.2.1)).2
  else ofE s.1 (fr ++ s.2.1) (joinD s.1 s.2.1 l []).1

def joinV (k n : Nat) : AV := match k with | 0 => .nils | _ + 1 => .own 3 1 n
def joinH (e : ByteArray) (ds xs : List Int) (k : Nat) (acc : List Int) : Heap := match k with
  | 0 => [some (.var 24 [S e, ints ds, ints xs]), some (.var 24 [.c (.string ⟨#[]⟩), .nils, .nils])]
  | _ + 1 => [some (.var 24 [S e, ints ds, ints xs]), some (.var 24 [.c (.string ⟨#[]⟩), .nils, .nils]), none, some (.row 3 1 (acc.map enc))]

abbrev zeroN (k : Int) : AV := .tup [.agg [.c (.string ⟨#[]⟩), .nils, .nils], I k]
def joinR (e : ByteArray) (ds fr : List Int) (p : List Int × Int) : AV :=
  if p.2 ≠ 0 then zeroN p.2 else if (sizeE (fr ++ ds)).2 ≠ 0 then zeroN (sizeE (fr ++ ds)).2 else ofE e (fr ++ ds) p.1
theorem joinR_imp {e : ByteArray} {ds fr : List Int} {p : List Int × Int} {ok : Nat → Prop} {w : World} {v : Value} (h : RepD ok w (joinR e ds fr p) v) :
    RepD ok w (if p.2 ≠ 0 then zeroK p.2 else if (sizeE (fr ++ ds)).2 ≠ 0 then zeroK (sizeE (fr ++ ds)).2 else ofE e (fr ++ ds) p.1) v := by
  unfold joinR at h
  split
  · rw [if_pos (by assumption)] at h
    exact zero_imp ok w v h
  · rw [if_neg (by assumption)] at h
    split
    · rw [if_pos (by assumption)] at h
      exact zero_imp ok w v h
    · rw [if_neg (by assumption)] at h
      exact h

theorem join (fr : List Int) (l : List Ar) (s : Ar) (hf : fr.length ≤ 500000) (hl : l.length ≤ 1000000) (hs : ∀ a ∈ l, smallA a) (hs1 : s.2.1.length ≤ 500000) (hs2 : s.2.2.length ≤ 1000000) (hd : (l.map fun a => a.2.2.length).sum ≤ 1000000) : Meets Try.prog 25 [ints fr, arrs l, arrV s] (joinE fr l s) := by
  obtain ⟨e, ds, xs⟩ := s
  have hv := isValid e ds xs (Nat.le_trans hs1 (by omega)) hs2
  have hc := containsA l hl hs
  have hz := size fr (by omega)
  have hz2 := size (fr ++ ds) (by rw [List.length_append]; simp only at hs1; omega)
  have hcat := B13.concat [fr, ds] (by simp) (by simp only at hs1; simp; omega)
  unfold joinE
  simp only at *
  by_cases hb : badA (e, ds, xs) = true
  · rw [if_pos (by simp [hb])]
    have hb' : (checkE e ds xs == 0) = false := by simpa [badA] using hb
    rw [hb'] at hv
    refine Meets.weak (r0 := .tup [.agg [.c (.string ⟨#[]⟩), .nils, .nils], I 1]) ?_ zero_imp
    refine meets_of Ty.mixed Try.func25 (by kernel_rfl) rfl (by kernel_rfl) (by simp) ?_; rw [Try.ntmps25, Try.results25]
    simp only [awp_reg, awp_seq, seqQ_n, awpOps_nil, awpOps_one, awpOp_is, isCallV, callW_is, callV_is, putK_is, updK_is, put_s, upd_s, slot_is, pureOp, apureO, astepO, killT, aev, cv, cvc, elO_s, loadA_p, cellsA, cellOk, argT, Bool.false_eq_true, ↓reduceIte, List.getElem?_cons_zero, List.length_cons, List.length_nil, List.map_cons, List.map_nil, List.cons_append, List.nil_append, List.append_nil, List.take_succ_cons, List.drop_zero, List.all_cons, List.all_nil, Bool.true_and, Bool.and_self, Value.oneCell', true_and, and_self, reduceCtorEq, Nat.reduceAdd, Nat.reduceEqDiff, Nat.zero_add, Nat.le_refl, List.take_nil, Ty.td24]
    refine call_meets (hv) (by simp only [aev, cv, cvc, toD_c, toD_agg, toD_sl, consO_some, toDL_nil, toDL_cons, Option.map_some]) ?_; simp only [awp_reg, awp_seq, awp_cond, awp_ret, seqQ_n, seqQ_r, awpOps_nil, awpOps_one, awpOps_if, awpOp_is, isCallV, putK_is, updK_is, put_s, upd_n, upd_s, slot_is, slot.eq_1, retA_is, pureOp, apureO, astepO, killT, aev, cv, cvc, elO_s, loadA_p, storeA, cellsA, cellOk, setAll, fillA, placeT, placesA, yieldA, guardA_ft, condA_t, pickA_t, flat_c, ownsV_c, ownsV_agg, ownsV_sl, ownsL_nil, ownsL_cons, toD_c, toD_nils, toD_tup, toD_agg, consO_some, toDL_nil, toDL_cons, notExit, resA_nil, resA_tmp, resA_cell, oneA_2, Bool.false_eq_true, ↓reduceIte, List.getElem?_cons_zero, List.getElem?_cons_succ, List.length_cons, List.length_nil, List.map_cons, List.map_nil, List.append_nil, List.set_cons_zero, List.set_cons_succ, List.getElem?_toArray, Option.bind_some, Option.map_some, List.take_succ_cons, List.drop_zero, List.all_cons, List.all_nil, Bool.true_and, Bool.and_self, Bool.or_true, Bool.not_false, Value.oneCell', true_and, and_self, ne_eq, not_false_eq_true, reduceCtorEq, Nat.reduceAdd, Nat.reduceEqDiff, Nat.zero_add, List.isEmpty_nil, Nat.le_refl, List.take_nil, Ty.td9, Ty.td22, Ty.td24]
  have hb' : (checkE e ds xs == 0) = true := by simpa [badA] using hb
  rw [hb'] at hv
  by_cases hb2 : l.any badA = true
  · rw [if_pos (by simp [hb2])]
    rw [hb2] at hc
    refine Meets.weak (r0 := .tup [.agg [.c (.string ⟨#[]⟩), .nils, .nils], I 1]) ?_ zero_imp
    refine meets_of Ty.mixed Try.func25 (by kernel_rfl) rfl (by kernel_rfl) (by simp) ?_; rw [Try.ntmps25, Try.results25]
    simp only [awp_reg, awp_seq, seqQ_n, awpOps_nil, awpOps_one, awpOp_is, isCallV, callW_is, callV_is, putK_is, updK_is, put_s, upd_s, slot_is, pureOp, apureO, astepO, killT, aev, cv, cvc, elO_s, loadA_p, cellsA, cellOk, argT, Bool.false_eq_true, ↓reduceIte, List.getElem?_cons_zero, List.length_cons, List.length_nil, List.map_cons, List.map_nil, List.cons_append, List.nil_append, List.append_nil, List.take_succ_cons, List.drop_zero, List.all_cons, List.all_nil, Bool.true_and, Bool.and_self, Value.oneCell', true_and, and_self, reduceCtorEq, Nat.reduceAdd, Nat.reduceEqDiff, Nat.zero_add, Nat.le_refl, List.take_nil, Ty.td24]
    refine call_meets (hv) (by simp only [aev, cv, cvc, toD_c, toD_agg, toD_sl, consO_some, toDL_nil, toDL_cons, Option.map_some]) ?_; simp only [awpOps_one, awpOps_if, awpOp_is, isCallV, callW_is, callV_is, awpO_is, putK_is, put_s, upd_s, slot_is, pureOp, apureO, killT, aev, cv, cvc, yieldA, guardA_ff, flat_c, ownsV_c, ownsV_agg, ownsV_sl, ownsL_nil, ownsL_cons, Bool.false_eq_true, ↓reduceIte, List.getElem?_cons_zero, List.getElem?_cons_succ, List.map_cons, List.map_nil, List.append_nil, List.getElem?_toArray, Option.bind_some, Bool.or_true, Bool.not_true, reduceCtorEq, Nat.reduceEqDiff, List.isEmpty_nil]
    refine call_meets (hc) (by simp only [aev, cv, cvc, toD_sl, toD_fn, consO_some, toDL_nil, toDL_cons, Option.map_some]) ?_; simp only [awp_reg, awp_seq, awp_cond, awp_ret, seqQ_n, seqQ_r, awpOps_nil, awpOps_one, awpOp_is, isCallV, putK_is, updK_is, put_s, upd_n, upd_s, slot_is, slot.eq_1, retA_is, pureOp, apureO, astepO, killT, aev, cv, cvc, elO_s, loadA_p, storeA, cellsA, cellOk, setAll, fillA, placeT, placesA, condA_t, pickA_f, flat_c, ownsV_sl, ownsV_fn, ownsL_nil, ownsL_cons, toD_c, toD_nils, toD_tup, toD_agg, consO_some, toDL_nil, toDL_cons, notExit, resA_nil, resA_tmp, resA_cell, oneA_2, Bool.false_eq_true, ↓reduceIte, List.getElem?_cons_zero, List.getElem?_cons_succ, List.length_cons, List.length_nil, List.map_cons, List.map_nil, List.append_nil, List.set_cons_zero, List.set_cons_succ, Option.map_some, List.take_succ_cons, List.drop_zero, List.all_cons, List.all_nil, Bool.true_and, Bool.and_self, Bool.or_true, Value.oneCell', true_and, and_self, ne_eq, not_false_eq_true, reduceCtorEq, Nat.reduceAdd, Nat.reduceEqDiff, Nat.zero_add, List.isEmpty_nil, Nat.le_refl, List.take_nil, Ty.td9, Ty.td22, Ty.td24]
  have hb2' : l.any badA = false := by simpa using hb2
  rw [hb2'] at hc
  rw [if_neg (by simp [hb, hb2'])]
  generalize sizeE fr = z at *
  obtain ⟨n, z⟩ := z
  simp only
  by_cases hz0 : z = 0
  case neg =>
    rw [if_pos hz0]
    have hz' : (z != 0) = true := by simpa using hz0
    refine Meets.weak (r0 := .tup [.agg [.c (.string ⟨#[]⟩), .nils, .nils], I z]) ?_ zero_imp
    refine meets_of Ty.mixed Try.func25 (by kernel_rfl) rfl (by kernel_rfl) (by simp) ?_; rw [Try.ntmps25, Try.results25]
    simp only [awp_reg, awp_seq, seqQ_n, awpOps_nil, awpOps_one, awpOp_is, isCallV, callW_is, callV_is, putK_is, updK_is, put_s, upd_s, slot_is, pureOp, apureO, astepO, killT, aev, cv, cvc, elO_s, loadA_p, cellsA, cellOk, argT, Bool.false_eq_true, ↓reduceIte, List.getElem?_cons_zero, List.length_cons, List.length_nil, List.map_cons, List.map_nil, List.cons_append, List.nil_append, List.append_nil, List.take_succ_cons, List.drop_zero, List.all_cons, List.all_nil, Bool.true_and, Bool.and_self, Value.oneCell', true_and, and_self, reduceCtorEq, Nat.reduceAdd, Nat.reduceEqDiff, Nat.zero_add, Nat.le_refl, List.take_nil, Ty.td24]
    refine call_meets (hv) (by simp only [aev, cv, cvc, toD_c, toD_agg, toD_sl, consO_some, toDL_nil, toDL_cons, Option.map_some]) ?_; simp only [awpOps_one, awpOps_if, awpOp_is, isCallV, callW_is, callV_is, awpO_is, putK_is, put_s, upd_s, slot_is, pureOp, apureO, killT, aev, cv, cvc, yieldA, guardA_ff, flat_c, ownsV_c, ownsV_agg, ownsV_sl, ownsL_nil, ownsL_cons, Bool.false_eq_true, ↓reduceIte, List.getElem?_cons_zero, List.getElem?_cons_succ, List.map_cons, List.map_nil, List.append_nil, List.getElem?_toArray, Option.bind_some, Bool.or_true, Bool.not_true, reduceCtorEq, Nat.reduceEqDiff, List.isEmpty_nil]
    refine call_meets (hc) (by simp only [aev, cv, cvc, toD_sl, toD_fn, consO_some, toDL_nil, toDL_cons, Option.map_some]) ?_; simp only [awp_skip, awp_reg, awp_seq, awp_cond, seqQ_n, awpOps_nil, awpOps_one, awpOp_is, isCallV, callW_is, callV_is, putK_is, put_s, upd_s, slot_is, pureOp, apureO, killT, aev, cv, cvc, condA_f, pickA_f, flat_c, ownsV_sl, ownsV_fn, ownsL_nil, ownsL_cons, Bool.false_eq_true, ↓reduceIte, List.map_cons, List.map_nil, List.append_nil, Bool.or_true, reduceCtorEq, Nat.reduceEqDiff, List.isEmpty_nil]
    refine call_meets (hz) (by simp only [aev, cv, cvc, toD_sl, consO_some, toDL_nil, toDL_cons, hz']) ?_; simp only [awp_reg, awp_seq, awp_cond, awp_ret, seqQ_n, seqQ_r, awpOps_nil, awpOps_one, awpOp_is, isCallV, putK_is, updK_is, put_s, upd_n, upd_s, slot_is, slot.eq_1, retA_is, pureOp, apureO, astepO, killT, aev, cv, cvc, binK, elO_s, loadA_p, storeA, cellsA, cellOk, setAll, fillA, placeT, placesA, condA_t, flat_c, flat_tup, flatL_nil, flatL_cons, ownsV_sl, ownsL_nil, ownsL_cons, toD_c, toD_nils, toD_tup, toD_agg, consO_some, toDL_nil, toDL_cons, notExit, resA_nil, resA_tmp, resA_cell, oneA_2, Bool.false_eq_true, ↓reduceIte, List.getElem?_cons_zero, List.getElem?_cons_succ, List.length_cons, List.length_nil, List.map_cons, List.map_nil, List.append_nil, List.set_cons_zero, List.set_cons_succ, Option.map_some, List.take_succ_cons, List.drop_zero, List.all_cons, List.all_nil, Bool.true_and, Bool.and_self, Bool.or_true, Value.oneCell', true_and, and_self, ne_eq, not_false_eq_true, reduceCtorEq, Nat.reduceAdd, Nat.reduceEqDiff, Nat.zero_add, List.isEmpty_nil, Nat.le_refl, List.take_nil, Ty.td9, Ty.td22, Ty.td24, hz']
  subst hz0
  rw [if_neg (by simp)]
  by_cases hn : (l.length : Int) = n
  case neg =>
    rw [if_pos hn]
    have hn' : ((l.length : Int) != n) = true := by simpa using hn
    refine Meets.weak (r0 := .tup [.agg [.c (.string ⟨#[]⟩), .nils, .nils], I 1]) ?_ zero_imp
    refine meets_of Ty.mixed Try.func25 (by kernel_rfl) rfl (by kernel_rfl) (by simp) ?_; rw [Try.ntmps25, Try.results25]
    simp only [awp_reg, awp_seq, seqQ_n, awpOps_nil, awpOps_one, awpOp_is, isCallV, callW_is, callV_is, putK_is, updK_is, put_s, upd_s, slot_is, pureOp, apureO, astepO, killT, aev, cv, cvc, elO_s, loadA_p, cellsA, cellOk, argT, Bool.false_eq_true, ↓reduceIte, List.getElem?_cons_zero, List.length_cons, List.length_nil, List.map_cons, List.map_nil, List.cons_append, List.nil_append, List.append_nil, List.take_succ_cons, List.drop_zero, List.all_cons, List.all_nil, Bool.true_and, Bool.and_self, Value.oneCell', true_and, and_self, reduceCtorEq, Nat.reduceAdd, Nat.reduceEqDiff, Nat.zero_add, Nat.le_refl, List.take_nil, Ty.td24]
    refine call_meets (hv) (by simp only [aev, cv, cvc, toD_c, toD_agg, toD_sl, consO_some, toDL_nil, toDL_cons, Option.map_some]) ?_; simp only [awpOps_one, awpOps_if, awpOp_is, isCallV, callW_is, callV_is, awpO_is, putK_is, put_s, upd_s, slot_is, pureOp, apureO, killT, aev, cv, cvc, yieldA, guardA_ff, flat_c, ownsV_c, ownsV_agg, ownsV_sl, ownsL_nil, ownsL_cons, Bool.false_eq_true, ↓reduceIte, List.getElem?_cons_zero, List.getElem?_cons_succ, List.map_cons, List.map_nil, List.append_nil, List.getElem?_toArray, Option.bind_some, Bool.or_true, Bool.not_true, reduceCtorEq, Nat.reduceEqDiff, List.isEmpty_nil]
    refine call_meets (hc) (by simp only [aev, cv, cvc, toD_sl, toD_fn, consO_some, toDL_nil, toDL_cons, Option.map_some]) ?_; simp only [awp_skip, awp_reg, awp_seq, awp_cond, seqQ_n, awpOps_nil, awpOps_one, awpOp_is, isCallV, callW_is, callV_is, putK_is, put_s, upd_s, slot_is, pureOp, apureO, killT, aev, cv, cvc, condA_f, pickA_f, flat_c, ownsV_sl, ownsV_fn, ownsL_nil, ownsL_cons, Bool.false_eq_true, ↓reduceIte, List.map_cons, List.map_nil, List.append_nil, Bool.or_true, reduceCtorEq, Nat.reduceEqDiff, List.isEmpty_nil]
    refine call_meets (hz) (by simp only [aev, cv, cvc, toD_sl, consO_some, toDL_nil, toDL_cons, hn']) ?_; simp only [awp_skip, awp_reg, awp_seq, awp_cond, awp_ret, seqQ_n, seqQ_r, awpOps_nil, awpOps_one, awpOp_is, isCallV, putK_is, updK_is, put_s, upd_n, upd_s, slot_is, slot.eq_1, retA_is, pureOp, apureO, astepO, killT, aev, cv, cvc, binK, elO_s, lenA, lenK, loadA_p, storeA, cellsA, cellOk, setAll, fillA, placeT, placesA, condA_t, condA_f, flat_c, flat_tup, flatL_nil, flatL_cons, ownsV_sl, ownsL_nil, ownsL_cons, toD_c, toD_nils, toD_tup, toD_agg, consO_some, toDL_nil, toDL_cons, notExit, resA_nil, resA_tmp, resA_cell, oneA_2, Bool.false_eq_true, ↓reduceIte, List.getElem?_cons_zero, List.getElem?_cons_succ, List.length_cons, List.length_nil, List.map_cons, List.map_nil, List.append_nil, List.set_cons_zero, List.set_cons_succ, Option.map_some, List.take_succ_cons, List.drop_zero, List.all_cons, List.all_nil, Bool.and_true, Bool.true_and, Bool.and_self, Bool.or_true, Value.oneCell', true_and, and_true, and_self, ne_eq, not_false_eq_true, reduceCtorEq, Nat.reduceAdd, Nat.reduceEqDiff, Nat.zero_add, List.isEmpty_nil, Option.isSome_some, Nat.le_refl, List.take_nil, Ty.td9, Ty.td22, Ty.td24, Ty.td27, bne_self_eq_false, List.length_map, hn']
  have hn' : ((l.length : Int) != n) = false := by simpa using hn
  rw [if_neg (by simpa using hn)]
  refine Meets.weak (r0 := joinR e ds fr (joinD e ds l [])) ?_ fun ok w v h => joinR_imp h
  refine meets_of Ty.mixed Try.func25 (by kernel_rfl) rfl (by kernel_rfl) (by simp) ?_; rw [Try.ntmps25, Try.results25]
  simp only [awp_reg, awp_seq, seqQ_n, awpOps_nil, awpOps_one, awpOp_is, isCallV, callW_is, callV_is, putK_is, updK_is, put_s, upd_s, slot_is, pureOp, apureO, astepO, killT, aev, cv, cvc, elO_s, loadA_p, cellsA, cellOk, argT, Bool.false_eq_true, ↓reduceIte, List.getElem?_cons_zero, List.length_cons, List.length_nil, List.map_cons, List.map_nil, List.cons_append, List.nil_append, List.append_nil, List.take_succ_cons, List.drop_zero, List.all_cons, List.all_nil, Bool.true_and, Bool.and_self, Value.oneCell', true_and, and_self, reduceCtorEq, Nat.reduceAdd, Nat.reduceEqDiff, Nat.zero_add, Nat.le_refl, List.take_nil, Ty.td24]
  refine call_meets (hv) (by simp only [aev, cv, cvc, toD_c, toD_agg, toD_sl, consO_some, toDL_nil, toDL_cons, Option.map_some]) ?_; simp only [awpOps_one, awpOps_if, awpOp_is, isCallV, callW_is, callV_is, awpO_is, putK_is, put_s, upd_s, slot_is, pureOp, apureO, killT, aev, cv, cvc, yieldA, guardA_ff, flat_c, ownsV_c, ownsV_agg, ownsV_sl, ownsL_nil, ownsL_cons, Bool.false_eq_true, ↓reduceIte, List.getElem?_cons_zero, List.getElem?_cons_succ, List.map_cons, List.map_nil, List.append_nil, List.getElem?_toArray, Option.bind_some, Bool.or_true, Bool.not_true, reduceCtorEq, Nat.reduceEqDiff, List.isEmpty_nil]
  refine call_meets (hc) (by simp only [aev, cv, cvc, toD_sl, toD_fn, consO_some, toDL_nil, toDL_cons, Option.map_some]) ?_; simp only [awp_skip, awp_reg, awp_seq, awp_cond, seqQ_n, awpOps_nil, awpOps_one, awpOp_is, isCallV, callW_is, callV_is, putK_is, put_s, upd_s, slot_is, pureOp, apureO, killT, aev, cv, cvc, condA_f, pickA_f, flat_c, ownsV_sl, ownsV_fn, ownsL_nil, ownsL_cons, Bool.false_eq_true, ↓reduceIte, List.map_cons, List.map_nil, List.append_nil, Bool.or_true, reduceCtorEq, Nat.reduceEqDiff, List.isEmpty_nil]
  refine call_meets (hz) (by simp only [aev, cv, cvc, toD_sl, consO_some, toDL_nil, toDL_cons, hn']) ?_; simp only [awp_skip, awp_reg, awp_seq, awp_cond, awp_block, awp_loop, seqQ_n, awpOps_nil, awpOps_one, awpOp_is, putK_is, put_s, upd_s, slot_is, pureOp, apureO, killT, aev, cv, cvc, binK, elO_s, lenA, lenK, condA_f, flat_c, flat_tup, flatL_nil, flatL_cons, ownsV_sl, ownsL_nil, ownsL_cons, ↓reduceIte, List.getElem?_cons_zero, List.getElem?_cons_succ, List.append_nil, Bool.true_and, Bool.and_self, Bool.or_true, true_and, and_self, reduceCtorEq, Nat.reduceEqDiff, List.isEmpty_nil, Option.isSome_some, Ty.td27, bne_self_eq_false, List.length_map, hn']
  refine loop_g (fun x : Nat × List Int => x.1 ≤ l.length ∧ joinD e ds l [] = joinD e ds (l.drop x.1) x.2 ∧ x.2.length + ((l.drop x.1).map fun a => a.2.2.length).sum ≤ 1000000 ∧ (x.1 = 0 → x.2 = [])) (fun x => ⟨83, [(40, I x.1), (39, I l.length), (38, arrs l), (10, joinV x.1 x.2.length), (0, ints fr), (5, .ptr 0 0), (6, .ptr 1 0)], joinH e ds xs x.1 x.2⟩) (fun x => l.length - x.1) (0, []) ⟨Nat.zero_le _, rfl, by simpa using hd, fun _ => rfl⟩ (by simp only [slot_is, aev, cv, cvc, Weak, ↓reduceIte, Bool.and_true, Bool.and_self, and_true, and_self, reduceCtorEq, Nat.reduceEqDiff, joinV] <;> simp) rfl (.inl rfl) ?_
  rintro ⟨k, acc⟩ ⟨hk, hi, hsum, h0⟩ K hK
  simp only at hk hi hsum h0 hK
  simp only [awp_reg, awp_seq, awp_cond, seqQ_n, awpOps_nil, awpOps_one, awpOp_is, putK_is, put_s, slot_is, pureOp, apureO, aev, cv, cvc, binK, ↓reduceIte, Bool.true_and, true_and, Nat.reduceEqDiff]
  refine condA_dec (fun hlt => ?_) (fun hge => ?_)
  · have hlt' : k < l.length := by omega
    have hx : l[k]? = some l[k] := List.getElem?_eq_getElem hlt'
    have hsm := hs l[k] (List.getElem_mem _)
    rw [List.drop_eq_getElem_cons hlt'] at hi hsum
    generalize l[k] = c at *
    obtain ⟨ce, cd, cx⟩ := c
    simp only [List.map_cons, List.sum_cons] at hsm hi hsum
    rw [joinD] at hi
    have hsl := slEqual cd ds hsm.1 (by omega)
    cases k with
    | zero =>
      obtain rfl := h0 rfl
      simp only [List.length_nil, Nat.zero_add] at hsum hi
      cases hce : ce.toList == e.toList
      · rw [hce, if_pos rfl] at hi
        simp only [awp_skip, awp_reg, awp_seq, awp_cond, awp_block, awp_ret, seqQ_n, seqQ_r, loopQ_r, blkQ_r, awpOps_nil, awpOps_one, awpOp_is, isCallV, putK_is, updK_is, put_s, upd_n, upd_s, slot_is, slot.eq_1, retA_is, pureOp, apureO, astepO, killT, aev, cv, cvc, binK, elO_s, loadA_d, loadA_p, storeA, cellsA, cellOk, setAll, fillA, placeT, placesA, condA_t, toD_c, toD_nils, toD_tup, toD_agg, consO_some, toDL_nil, toDL_cons, notExit, resA_nil, resA_tmp, resA_cell, oneA_2, Int.natCast_nonneg, Bool.false_eq_true, ↓reduceIte, List.getElem?_cons_zero, List.getElem?_cons_succ, List.length_cons, List.length_nil, List.map_cons, List.map_nil, List.cons_append, List.nil_append, List.set_cons_zero, List.set_cons_succ, Option.map_some, List.take_succ_cons, List.drop_zero, List.all_cons, List.all_nil, Bool.true_and, Bool.and_self, Bool.not_false, Value.oneCell', true_and, and_self, ne_eq, not_false_eq_true, reduceCtorEq, Nat.reduceAdd, Nat.reduceEqDiff, Nat.zero_add, Int.toNat_natCast, Nat.le_refl, List.take_nil, Ty.td9, Ty.td22, Ty.td24, Ty.td27, joinV, joinH, List.getElem?_map, hx, hce]
        rw [hi]
        simp [joinR]
      rw [hce, if_neg (by simp)] at hi
      simp only [awp_skip, awp_reg, awp_seq, awp_cond, awp_block, seqQ_n, awpOps_nil, awpOps_one, awpOp_is, isCallV, callW_is, callV_is, putK_is, updK_is, put_s, upd_n, upd_s, slot_is, pureOp, apureO, astepO, killT, aev, cv, cvc, binK, elO_s, loadA_d, loadA_p, storeA, cellsA, cellOk, setAll, condA_f, Int.natCast_nonneg, Bool.false_eq_true, ↓reduceIte, List.getElem?_cons_zero, List.getElem?_cons_succ, List.length_cons, List.length_nil, List.map_cons, List.map_nil, List.cons_append, List.nil_append, List.append_nil, List.set_cons_zero, List.set_cons_succ, Option.map_some, List.take_succ_cons, List.all_cons, List.all_nil, Bool.true_and, Bool.and_self, Bool.not_true, Value.oneCell', true_and, and_self, ne_eq, not_false_eq_true, reduceCtorEq, Nat.reduceAdd, Nat.reduceEqDiff, Nat.zero_add, Int.toNat_natCast, Nat.le_refl, List.take_nil, Ty.td9, Ty.td22, Ty.td24, Ty.td27, joinV, joinH, List.getElem?_map, hx, hce]
      cases hcd : cd == ds
      · rw [hcd] at hsl
        rw [hcd, if_pos rfl] at hi
        refine call_meets (hsl) (by simp only [aev, cv, cvc, toD_sl, consO_some, toDL_nil, toDL_cons]) ?_; simp only [awp_reg, awp_seq, awp_cond, awp_ret, seqQ_n, seqQ_r, loopQ_r, blkQ_r, awpOps_nil, awpOps_one, awpOp_is, isCallV, putK_is, updK_is, put_s, upd_n, upd_s, slot_is, slot.eq_1, retA_is, pureOp, apureO, astepO, killT, aev, cv, cvc, elO_s, loadA_p, storeA, cellsA, cellOk, setAll, fillA, placeT, placesA, condA_t, flat_c, ownsV_sl, ownsL_nil, ownsL_cons, toD_c, toD_nils, toD_tup, toD_agg, consO_some, toDL_nil, toDL_cons, notExit, resA_nil, resA_tmp, resA_cell, oneA_2, Bool.false_eq_true, ↓reduceIte, List.getElem?_cons_zero, List.getElem?_cons_succ, List.length_cons, List.length_nil, List.map_cons, List.map_nil, List.append_nil, List.set_cons_zero, List.set_cons_succ, Option.map_some, List.take_succ_cons, List.drop_zero, List.all_cons, List.all_nil, Bool.true_and, Bool.and_self, Bool.or_true, Bool.not_false, Value.oneCell', true_and, and_self, ne_eq, not_false_eq_true, reduceCtorEq, Nat.reduceAdd, Nat.reduceEqDiff, Nat.zero_add, List.isEmpty_nil, Nat.le_refl, List.take_nil, Ty.td9, Ty.td22, Ty.td24]
        rw [hi]
        simp [joinR]
      rw [hcd] at hsl
      rw [hcd, if_neg (by simp)] at hi
      refine call_meets (hsl) (by simp only [aev, cv, cvc, toD_sl, consO_some, toDL_nil, toDL_cons, wrap_in (x := ((0 : Nat) : Int) + 1) (by omega) (by omega)]) ?_; simp only [awp_skip, awp_reg, awp_cond, seqQ_n, loopQ_n, blkQ_n, awpOps_nil, awpOps_one, awpOp_is, isCallV, putK_is, updK_is, put_s, upd_s, slot_is, pureOp, apureO, astepO, appA_sl, appV, killT, aev, cv, cvc, binK, elO_s, loadA_p, condA_f, elemsA, elemsN, flat_c, ownsV_sl, ownsL_nil, ownsL_cons, Bool.false_eq_true, ↓reduceIte, List.getElem?_cons_zero, List.getElem?_cons_succ, List.length_cons, List.length_nil, List.cons_append, List.nil_append, List.append_nil, Bool.true_and, Bool.or_true, Bool.not_true, true_and, ne_eq, not_false_eq_true, reduceCtorEq, Nat.reduceAdd, Nat.reduceLT, Nat.reduceEqDiff, Nat.zero_add, List.isEmpty_nil, Ty.td3, Ty.td22, Ty.td24, List.length_map, wrap_in (x := ((0 : Nat) : Int) + 1) (by omega) (by omega)]
      refine ⟨by omega, by omega, ?_⟩
      refine hK (0 + 1, [] ++ cx) _ ⟨hlt', hi, by simp only [List.length_append, List.length_nil, Nat.zero_add]; omega, fun h => by cases h⟩ (by simp only; omega) ?_ rfl (.weak (by simp [joinH]) (by simp [WeakH, joinH]) rfl rfl)
      simp only [slot_is, aev, cv, cvc, Weak, ↓reduceIte, List.nil_append, Bool.and_true, Bool.and_self, and_true, and_self, reduceCtorEq, Nat.reduceEqDiff, Nat.zero_add, joinV]
      simp
    | succ k =>
      have hbt : List.take acc.length (List.map enc acc) = List.map enc acc := List.take_of_length_le (by simp)
      cases hce : ce.toList == e.toList
      · rw [hce, if_pos rfl] at hi
        simp only [awp_skip, awp_reg, awp_seq, awp_cond, awp_block, awp_ret, seqQ_n, seqQ_r, loopQ_r, blkQ_r, awpOps_nil, awpOps_one, awpOp_is, isCallV, putK_is, updK_is, put_s, upd_n, upd_s, slot_is, slot.eq_1, retA_is, pureOp, apureO, astepO, killT, aev, cv, cvc, binK, elO_s, loadA_d, loadA_p, storeA, cellsA, cellOk, setAll, fillA, placeT, placesA, condA_t, toD_c, toD_nils, toD_tup, toD_agg, consO_some, toDL_nil, toDL_cons, notExit, resA_nil, resA_tmp, resA_cell, oneA_2, Int.natCast_nonneg, Bool.false_eq_true, ↓reduceIte, List.getElem?_cons_zero, List.getElem?_cons_succ, List.length_cons, List.length_nil, List.map_cons, List.map_nil, List.cons_append, List.nil_append, List.set_cons_zero, List.set_cons_succ, Option.map_some, List.take_succ_cons, List.drop_zero, List.all_cons, List.all_nil, Bool.true_and, Bool.and_self, Bool.not_false, Value.oneCell', true_and, and_self, ne_eq, not_false_eq_true, reduceCtorEq, Nat.reduceAdd, Nat.reduceEqDiff, Nat.zero_add, Int.toNat_natCast, Nat.le_refl, List.take_nil, Ty.td9, Ty.td22, Ty.td24, Ty.td27, joinV, joinH, List.getElem?_map, hx, hce]
        rw [hi]
        simp [joinR]
      rw [hce, if_neg (by simp)] at hi
      simp only [awp_skip, awp_reg, awp_seq, awp_cond, awp_block, seqQ_n, awpOps_nil, awpOps_one, awpOp_is, isCallV, callW_is, callV_is, putK_is, updK_is, put_s, upd_n, upd_s, slot_is, pureOp, apureO, astepO, killT, aev, cv, cvc, binK, elO_s, loadA_d, loadA_p, storeA, cellsA, cellOk, setAll, condA_f, Int.natCast_nonneg, Bool.false_eq_true, ↓reduceIte, List.getElem?_cons_zero, List.getElem?_cons_succ, List.length_cons, List.length_nil, List.map_cons, List.map_nil, List.cons_append, List.nil_append, List.append_nil, List.set_cons_zero, List.set_cons_succ, Option.map_some, List.take_succ_cons, List.all_cons, List.all_nil, Bool.true_and, Bool.and_self, Bool.not_true, Value.oneCell', true_and, and_self, ne_eq, not_false_eq_true, reduceCtorEq, Nat.reduceAdd, Nat.reduceEqDiff, Nat.zero_add, Int.toNat_natCast, Nat.le_refl, List.take_nil, Ty.td9, Ty.td22, Ty.td24, Ty.td27, joinV, joinH, List.getElem?_map, hx, hce]
      cases hcd : cd == ds
      · rw [hcd] at hsl
        rw [hcd, if_pos rfl] at hi
        refine call_meets (hsl) (by simp only [aev, cv, cvc, toD_sl, consO_some, toDL_nil, toDL_cons]) ?_; simp only [awp_reg, awp_seq, awp_cond, awp_ret, seqQ_n, seqQ_r, loopQ_r, blkQ_r, awpOps_nil, awpOps_one, awpOp_is, isCallV, putK_is, updK_is, put_s, upd_n, upd_s, slot_is, slot.eq_1, retA_is, pureOp, apureO, astepO, killT, aev, cv, cvc, elO_s, loadA_p, storeA, cellsA, cellOk, setAll, fillA, placeT, placesA, condA_t, flat_c, ownsV_sl, ownsL_nil, ownsL_cons, toD_c, toD_nils, toD_tup, toD_agg, consO_some, toDL_nil, toDL_cons, notExit, resA_nil, resA_tmp, resA_cell, oneA_2, Bool.false_eq_true, ↓reduceIte, List.getElem?_cons_zero, List.getElem?_cons_succ, List.length_cons, List.length_nil, List.map_cons, List.map_nil, List.append_nil, List.set_cons_zero, List.set_cons_succ, Option.map_some, List.take_succ_cons, List.drop_zero, List.all_cons, List.all_nil, Bool.true_and, Bool.and_self, Bool.or_true, Bool.not_false, Value.oneCell', true_and, and_self, ne_eq, not_false_eq_true, reduceCtorEq, Nat.reduceAdd, Nat.reduceEqDiff, Nat.zero_add, List.isEmpty_nil, Nat.le_refl, List.take_nil, Ty.td9, Ty.td22, Ty.td24]
        rw [hi]
        simp [joinR]
      rw [hcd] at hsl
      rw [hcd, if_neg (by simp)] at hi
      refine call_meets (hsl) (by simp only [aev, cv, cvc, toD_sl, consO_some, toDL_nil, toDL_cons, wrap_in (x := ((k + 1 : Nat) : Int) + 1) (by omega) (by omega), hbt]) ?_; simp only [awp_skip, awp_reg, awp_cond, seqQ_n, loopQ_n, blkQ_n, awpOps_nil, awpOps_one, awpOp_is, isCallV, putK_is, updK_is, put_s, upd_s, slot_is, pureOp, apureO, astepO, appA_sl, appV, killT, killB, killH, aev, cv, cvc, binK, elO_s, loadA_p, condA_f, elemsA, elemsN, rowE, flat_c, ownsV_sl, ownsL_nil, ownsL_cons, killV_c, killV_nils, killV_agg, killV_sl, killV_own, killV_dptr, killV_ptr, killL_nil, killL_cons, Bool.false_eq_true, ↓reduceIte, List.getElem?_cons_zero, List.getElem?_cons_succ, List.length_cons, List.length_nil, List.map_cons, List.map_nil, List.append_nil, List.set_cons_zero, List.set_cons_succ, Option.map_some, Option.map_none, Bool.true_and, Bool.and_self, Bool.or_true, Bool.or_false, Bool.not_true, true_and, and_self, ne_eq, not_false_eq_true, reduceCtorEq, Nat.reduceAdd, Nat.reduceLT, Nat.reduceEqDiff, Nat.zero_add, List.isEmpty_nil, List.mem_cons, List.not_mem_nil, or_false, Nat.le_refl, Ty.td3, Ty.td22, Ty.td24, List.length_map, wrap_in (x := ((k + 1 : Nat) : Int) + 1) (by omega) (by omega), hbt]
      refine ⟨by omega, by omega, ?_⟩
      refine hK (k + 1 + 1, acc ++ cx) _ ⟨hlt', hi, by simp only [List.length_append, List.length_nil, Nat.zero_add]; omega, fun h => by cases h⟩ (by simp only; omega) ?_ rfl (.weak (by simp [joinH]) (by simp [WeakH, joinH]) rfl rfl)
      simp only [slot_is, aev, cv, cvc, Weak, ↓reduceIte, Bool.and_true, Bool.true_and, Bool.and_self, true_and, and_true, and_self, reduceCtorEq, Nat.reduceEqDiff, joinV]
      simp
  · have hk' : k = l.length := by omega
    subst hk'
    rw [List.drop_length, joinD] at hi
    rw [hi]
    have hof := of_ e (fr ++ ds) acc (by rw [List.length_append]; omega) (by omega)
    simp only [List.map_cons, List.map_nil, List.flatten_cons, List.flatten_nil, List.append_nil, B13.encC] at hcat
    unfold joinR
    rw [if_neg (by simp)]
    simp only
    generalize sizeE (fr ++ ds) = z at *
    obtain ⟨m, z⟩ := z
    simp only
    obtain ⟨E, D, X, q, ho, _, _⟩ := ofE_ex e (fr ++ ds) acc (by rw [List.length_append]; omega) (by omega)
    rw [ho] at hof ⊢
    cases l with
    | nil =>
      obtain rfl := h0 rfl
      have hof := Meets.nil (pre := [S e, ints (fr ++ ds)]) (post := []) hof
      simp only [awp_reg, awp_seq, awp_exit, seqQ_n, seqQ_e, loopQ_e, blkQ_e, awpOps_one, awpOp_is, isCallV, callW_is, callV_is, putK_is, updK_is, put_s, upd_s, slot_is, slot.eq_1, pureOp, apureO, astepO, killT, aev, cv, cvc, elO_s, loadA_p, cellsA, cellOk, setAll, fillA, chunk, isD_sl, isDL_nil, isDL_cons, Bool.false_eq_true, ↓reduceIte, List.getElem?_cons_zero, List.getElem?_cons_succ, List.length_cons, List.length_nil, List.map_cons, List.map_nil, List.cons_append, List.nil_append, List.append_nil, List.set_cons_zero, List.set_cons_succ, Option.getD_some, List.take_succ_cons, List.take_zero, List.drop_succ_cons, List.drop_zero, List.all_cons, List.all_nil, Bool.and_true, Bool.true_and, Bool.and_self, Value.oneCell', true_and, and_true, and_self, ne_eq, not_false_eq_true, reduceCtorEq, Nat.reduceAdd, Nat.reduceMul, Nat.reduceLT, Nat.reduceLeDiff, Nat.reduceEqDiff, Nat.reduceMod, Nat.zero_add, List.range_succ, List.range_zero, Nat.le_refl, List.take_nil, Ty.td22, Ty.td24, Ty.td40, joinV, joinH, List.length_nil]
      refine call_meets (hcat) (by simp only [aev, cv, cvc, elemsA, toD_own, consO_some, toDL_nil, toDL_cons, ↓reduceIte, List.getElem?_cons_zero, List.getElem?_cons_succ, List.length_cons, List.length_nil, Option.map_some, List.take_succ_cons, Bool.and_self, and_self, Nat.reduceAdd, Nat.zero_add, Nat.le_refl, List.take_nil]) ?_; simp only [awp_reg, awp_seq, seqQ_n, awpOps_nil, awpOps_one, awpOp_is, isCallV, callW_is, callV_is, putK_is, put_s, upd_s, slot_is, pureOp, apureO, killT, killB, killH, aev, cv, cvc, elemsA, dropL, flat_sl, ownsV_own, ownsL_nil, ownsL_cons, killV_c, killV_nils, killV_sl, killV_own, killV_ptr, killL_nil, killL_cons, Bool.false_eq_true, ↓reduceIte, List.getElem?_cons_zero, List.getElem?_cons_succ, List.length_cons, List.length_nil, List.map_cons, List.map_nil, List.append_nil, Option.map_some, Option.map_none, List.take_succ_cons, Bool.and_self, Bool.or_false, and_self, reduceCtorEq, Nat.reduceAdd, Nat.reduceEqDiff, Nat.zero_add, List.isEmpty_cons, List.mem_cons, List.not_mem_nil, or_false, List.zipIdx_cons, List.zipIdx_nil, Nat.le_refl, List.take_nil]
      by_cases hz0 : z = 0
      case neg =>
        rw [if_pos hz0]
        have hz' : (z != 0) = true := by simpa using hz0
        refine call_meets (hz2) (by simp only [aev, cv, cvc, toD_sl, consO_some, toDL_nil, toDL_cons, hz']) ?_; simp only [awp_reg, awp_seq, awp_cond, awp_ret, seqQ_n, seqQ_r, awpOps_nil, awpOps_one, awpOp_is, isCallV, putK_is, updK_is, put_s, upd_n, upd_s, slot_is, slot.eq_1, retA_is, pureOp, apureO, astepO, killT, aev, cv, cvc, binK, elO_s, loadA_p, storeA, cellsA, cellOk, setAll, fillA, placeT, placesA, condA_t, flat_c, flat_tup, flatL_nil, flatL_cons, ownsV_sl, ownsL_nil, ownsL_cons, toD_c, toD_nils, toD_tup, toD_agg, consO_some, toDL_nil, toDL_cons, notExit, resA_nil, resA_tmp, resA_cell, oneA_2, Bool.false_eq_true, ↓reduceIte, List.getElem?_cons_zero, List.getElem?_cons_succ, List.length_cons, List.length_nil, List.map_cons, List.map_nil, List.append_nil, List.set_cons_zero, List.set_cons_succ, Option.map_some, List.take_succ_cons, List.drop_zero, List.all_cons, List.all_nil, Bool.true_and, Bool.and_self, Bool.or_true, Value.oneCell', true_and, and_self, ne_eq, not_false_eq_true, reduceCtorEq, Nat.reduceAdd, Nat.reduceEqDiff, Nat.zero_add, List.isEmpty_nil, Nat.le_refl, List.take_nil, Ty.td9, Ty.td22, Ty.td24, hz']
      subst hz0
      rw [if_neg (by simp)]
      refine call_meets (hz2) (by simp only [aev, cv, cvc, toD_sl, consO_some, toDL_nil, toDL_cons]) ?_; simp only [awp_skip, awp_reg, awp_seq, awp_cond, seqQ_n, awpOps_nil, awpOps_one, awpOp_is, isCallV, callW_is, callV_is, putK_is, put_s, upd_s, slot_is, pureOp, apureO, killT, aev, cv, cvc, binK, elO_s, loadA_p, condA_f, flat_c, flat_tup, flatL_nil, flatL_cons, ownsV_sl, ownsL_nil, ownsL_cons, Bool.false_eq_true, ↓reduceIte, List.getElem?_cons_zero, List.getElem?_cons_succ, List.length_cons, List.length_nil, List.map_cons, List.map_nil, List.append_nil, Bool.true_and, Bool.and_self, Bool.or_true, true_and, and_self, ne_eq, not_false_eq_true, reduceCtorEq, Nat.reduceAdd, Nat.reduceEqDiff, Nat.zero_add, List.isEmpty_nil, Ty.td9, Ty.td24, bne_self_eq_false]
      refine call_meets (hof) (by simp only [aev, cv, cvc, toD_c, toD_nils, toD_sl, consO_some, toDL_nil, toDL_cons, List.cons_append, List.nil_append]) ?_; simp only [awp_ret, seqQ_n, awpOps_nil, awpOps_one, awpOp_is, isCallV, putK_is, updK_is, put_s, upd_n, upd_s, slot_is, retA_is, pureOp, apureO, astepO, killT, aev, cv, cvc, elO_s, loadA_p, storeA, cellsA, cellOk, setAll, flat_c, flat_tup, flat_agg, flat_sl, flatL_nil, flatL_cons, ownsV_c, ownsV_nils, ownsV_sl, ownsL_nil, ownsL_cons, toD_c, toD_tup, toD_agg, toD_sl, consO_some, toDL_nil, toDL_cons, notExit, resA_nil, resA_tmp, resA_cell, oneA_2, Bool.false_eq_true, ↓reduceIte, List.getElem?_cons_zero, List.getElem?_cons_succ, List.length_cons, List.length_nil, List.append_nil, List.set_cons_zero, List.set_cons_succ, Option.map_some, List.take_succ_cons, List.drop_zero, Bool.and_true, Bool.true_and, Bool.and_false, Bool.and_self, Bool.or_true, true_and, and_true, and_self, reduceCtorEq, Nat.reduceAdd, Nat.reduceEqDiff, Nat.zero_add, List.isEmpty_nil, Nat.le_refl, List.take_nil, Ty.td24]
    | cons c l =>
      have hbt : List.take acc.length (List.map enc acc) = List.map enc acc := List.take_of_length_le (by simp)
      simp only [awp_reg, awp_seq, awp_exit, seqQ_n, seqQ_e, loopQ_e, blkQ_e, awpOps_one, awpOp_is, isCallV, callW_is, callV_is, putK_is, updK_is, put_s, upd_s, slot_is, slot.eq_1, pureOp, apureO, astepO, killT, aev, cv, cvc, elO_s, loadA_p, cellsA, cellOk, setAll, fillA, chunk, isD_sl, isDL_nil, isDL_cons, Bool.false_eq_true, ↓reduceIte, List.getElem?_cons_zero, List.getElem?_cons_succ, List.length_cons, List.length_nil, List.map_cons, List.map_nil, List.cons_append, List.nil_append, List.append_nil, List.set_cons_zero, List.set_cons_succ, Option.getD_some, List.take_succ_cons, List.take_zero, List.drop_succ_cons, List.drop_zero, List.all_cons, List.all_nil, Bool.and_true, Bool.true_and, Bool.and_self, Value.oneCell', true_and, and_true, and_self, ne_eq, not_false_eq_true, reduceCtorEq, Nat.reduceAdd, Nat.reduceMul, Nat.reduceLT, Nat.reduceLeDiff, Nat.reduceEqDiff, Nat.reduceMod, Nat.zero_add, List.range_succ, List.range_zero, Nat.le_refl, List.take_nil, Ty.td22, Ty.td24, Ty.td40, joinV, joinH, List.length_cons]
      refine call_meets (hcat) (by simp only [aev, cv, cvc, elemsA, toD_own, consO_some, toDL_nil, toDL_cons, ↓reduceIte, List.getElem?_cons_zero, List.getElem?_cons_succ, List.length_cons, List.length_nil, Option.map_some, List.take_succ_cons, Bool.and_self, and_self, Nat.reduceAdd, Nat.zero_add, Nat.le_refl, List.take_nil]) ?_; simp only [awp_reg, awp_seq, seqQ_n, awpOps_nil, awpOps_one, awpOp_is, isCallV, callW_is, callV_is, putK_is, put_s, upd_s, slot_is, pureOp, apureO, killT, killB, killH, aev, cv, cvc, elemsA, dropL, flat_sl, ownsV_own, ownsL_nil, ownsL_cons, killV_c, killV_nils, killV_sl, killV_own, killV_ptr, killL_nil, killL_cons, Bool.false_eq_true, ↓reduceIte, List.getElem?_cons_zero, List.getElem?_cons_succ, List.length_cons, List.length_nil, List.map_cons, List.map_nil, List.append_nil, Option.map_some, Option.map_none, List.take_succ_cons, Bool.and_self, Bool.or_false, and_self, reduceCtorEq, Nat.reduceAdd, Nat.reduceEqDiff, Nat.zero_add, List.isEmpty_cons, List.mem_cons, List.not_mem_nil, or_false, List.zipIdx_cons, List.zipIdx_nil, Nat.le_refl, List.take_nil]
      by_cases hz0 : z = 0
      case neg =>
        rw [if_pos hz0]
        have hz' : (z != 0) = true := by simpa using hz0
        refine call_meets (hz2) (by simp only [aev, cv, cvc, toD_sl, consO_some, toDL_nil, toDL_cons, hz']) ?_; simp only [awp_reg, awp_seq, awp_cond, awp_ret, seqQ_n, seqQ_r, awpOps_nil, awpOps_one, awpOp_is, isCallV, putK_is, updK_is, put_s, upd_n, upd_s, slot_is, slot.eq_1, retA_is, pureOp, apureO, astepO, killT, aev, cv, cvc, binK, elO_s, loadA_p, storeA, cellsA, cellOk, setAll, fillA, placeT, placesA, condA_t, flat_c, flat_tup, flatL_nil, flatL_cons, ownsV_sl, ownsL_nil, ownsL_cons, toD_c, toD_nils, toD_tup, toD_agg, consO_some, toDL_nil, toDL_cons, notExit, resA_nil, resA_tmp, resA_cell, oneA_2, Bool.false_eq_true, ↓reduceIte, List.getElem?_cons_zero, List.getElem?_cons_succ, List.length_cons, List.length_nil, List.map_cons, List.map_nil, List.append_nil, List.set_cons_zero, List.set_cons_succ, Option.map_some, List.take_succ_cons, List.drop_zero, List.all_cons, List.all_nil, Bool.true_and, Bool.and_self, Bool.or_true, Value.oneCell', true_and, and_self, ne_eq, not_false_eq_true, reduceCtorEq, Nat.reduceAdd, Nat.reduceEqDiff, Nat.zero_add, List.isEmpty_nil, Nat.le_refl, List.take_nil, Ty.td9, Ty.td22, Ty.td24, hz']
      subst hz0
      rw [if_neg (by simp)]
      refine call_meets (hz2) (by simp only [aev, cv, cvc, toD_sl, consO_some, toDL_nil, toDL_cons]) ?_; simp only [awp_skip, awp_reg, awp_seq, awp_cond, seqQ_n, awpOps_nil, awpOps_one, awpOp_is, isCallV, callW_is, callV_is, putK_is, put_s, upd_s, slot_is, pureOp, apureO, killT, aev, cv, cvc, binK, elO_s, loadA_p, condA_f, flat_c, flat_tup, flatL_nil, flatL_cons, ownsV_sl, ownsL_nil, ownsL_cons, Bool.false_eq_true, ↓reduceIte, List.getElem?_cons_zero, List.getElem?_cons_succ, List.length_cons, List.length_nil, List.map_cons, List.map_nil, List.append_nil, Bool.true_and, Bool.and_self, Bool.or_true, true_and, and_self, ne_eq, not_false_eq_true, reduceCtorEq, Nat.reduceAdd, Nat.reduceEqDiff, Nat.zero_add, List.isEmpty_nil, Ty.td9, Ty.td24, bne_self_eq_false]
      refine call_meets (hof) (by simp only [aev, cv, cvc, elemsA, toD_c, toD_sl, toD_own, consO_some, toDL_nil, toDL_cons, ↓reduceIte, List.getElem?_cons_zero, List.getElem?_cons_succ, Option.map_some, Bool.and_self, and_self, Nat.le_refl, List.length_map, hbt]) ?_; simp only [awp_ret, seqQ_n, awpOps_nil, awpOps_one, awpOp_is, isCallV, putK_is, updK_is, put_s, upd_n, upd_s, slot_is, retA_is, pureOp, apureO, astepO, killT, killB, killH, aev, cv, cvc, elO_s, loadA_p, storeA, cellsA, cellOk, setAll, elemsA, dropL, flat_c, flat_tup, flat_agg, flat_sl, flatL_nil, flatL_cons, ownsV_c, ownsV_sl, ownsV_own, ownsL_nil, ownsL_cons, toD_c, toD_tup, toD_agg, toD_sl, consO_some, toDL_nil, toDL_cons, killV_c, killV_nils, killV_tup, killV_sl, killV_own, killV_ptr, killL_nil, killL_cons, notExit, resA_nil, resA_tmp, resA_cell, oneA_2, Bool.false_eq_true, ↓reduceIte, List.getElem?_cons_zero, List.getElem?_cons_succ, List.length_cons, List.length_nil, List.map_cons, List.map_nil, List.nil_append, List.append_nil, List.set_cons_zero, List.set_cons_succ, Option.map_some, Option.map_none, List.take_succ_cons, List.drop_zero, Bool.and_true, Bool.true_and, Bool.and_false, Bool.and_self, Bool.or_false, true_and, and_true, and_self, reduceCtorEq, Nat.reduceAdd, Nat.reduceEqDiff, Nat.zero_add, List.isEmpty_cons, List.mem_cons, List.not_mem_nil, or_false, List.zipIdx_cons, List.zipIdx_nil, Nat.le_refl, List.take_nil, Ty.td24, List.length_map, hbt]
end Go.Proofs.Ytoobaeebgnbpjaa.B14
