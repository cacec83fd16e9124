/- Structure: Apply. -/
import Derived.Test.YtbmmemglkjeogaaS8
import Derived.Test.YtbmmemglkjeogaaA5
namespace Go.Proofs.Ytbmmemglkjeogaa.S9
open Go Go.Proofs.Ytbmmemglkjeogaa.Eng Go.Proofs.Ytbmmemglkjeogaa Go.RowKit Go.Proofs.Ytbmmemglkjeogaa.A1 Go.Proofs.Ytbmmemglkjeogaa.A2 Go.Proofs.Ytbmmemglkjeogaa.A3 Go.Proofs.Ytbmmemglkjeogaa.A5 Go.Proofs.Ytbmmemglkjeogaa.S1 Go.Proofs.Ytbmmemglkjeogaa.S2 Go.Proofs.Ytbmmemglkjeogaa.S3 Go.Proofs.Ytbmmemglkjeogaa.S4 Go.Proofs.Ytbmmemglkjeogaa.S5 Go.Proofs.Ytbmmemglkjeogaa.S6 Go.Proofs.Ytbmmemglkjeogaa.S7 Go.Proofs.Ytbmmemglkjeogaa.S8
set_option linter.unusedSimpArgs false
set_option linter.unusedVariables false
set_option linter.unusedSectionVars false
set_option maxRecDepth 100000

def badA (a : Ar) : Bool := !(checkE a.1 a.2.1 a.2.2 == 0)
abbrev smallA (a : Ar) : Prop := a.2.1.length ≤ 1000000 ∧ a.2.2.length ≤ 1000000
abbrev zero0 (k : Int) : AV := .tup [.agg [.c (.string ⟨#[]⟩), .nils, .nils], B false, I k]
abbrev zeroT (k : Int) : AV := .tup [arr ⟨#[]⟩ [] [], B false, I k]
theorem zeroT_imp {k : Int} (ok : Nat → Prop) (w : World) (v : Value) (h : RepD ok w (zero0 k) v) : RepD ok w (zeroT k) v :=
  tup_imp (fun _ => cons_imp (fun _ => agg_imp fun _ => cons_imp (fun _ h => h) fun _ => cons_imp (fun _ => nil_imp) fun _ => cons_imp (fun _ => nil_imp) fun _ h => h) fun _ h => h) h

theorem form_is {e : ByteArray} {o : Op13} {ns nc : Nat} {num : Int} (ho : opOf e = some o) : formE e ns nc num = if formB o ns nc num then 0 else 1 := by
  unfold formE formB
  rw [ho]

theorem apply_form {e : ByteArray} {zs : List Int} {num k : Int} {l : List Ar} (h : formE e zs.length l.length num = k) (hk : k ≠ 0) : Meets Try.prog 11 [S e, ints zs, I num, arrs l] (zeroT k) := by
  refine Meets.weak (r0 := zero0 k) ?_ zeroT_imp
  have hc := checkForm_ e zs num l.length
  rw [h] at hc
  refine meets_of (X := true) Ty.mixed Try.func11 (by kernel_rfl) rfl (by kernel_rfl) (by simp) ?_; rw [Try.ntmps11, Try.results11]
  simp only [awp_reg, awp_seq, seqQ_n, awpOps_nil, awpOps_one, awpOp_is, isCallV, callW_is, callV_is, putK_is, updK_is, put_s, upd_s, slot_is, pureOp, apureO, astepO, killT, aev, cv, cvc, elO_s, lenA, lenK, argT, Bool.false_eq_true, ↓reduceIte, List.length_nil, List.map_cons, List.map_nil, List.nil_append, List.append_nil, List.all_cons, List.all_nil, Bool.true_and, Bool.and_self, Value.oneCell', true_and, and_self, reduceCtorEq, Nat.reduceAdd, Nat.reduceEqDiff, Nat.zero_add, Option.isSome_some, Ty.td25, Ty.td29, List.length_map]
  refine call_meets (hc) (by simp only [aev, cv, cvc, toD_c, toD_sl, consO_some, toDL_nil, toDL_cons, show (k != 0) = true by simpa using hk] <;> rfl) ?_; simp only [awp_reg, awp_seq, awp_cond, awp_ret, seqQ_n, seqQ_r, awpOps_nil, awpOps_one, awpOp_is, isCallV, putK_is, updK_is, put_s, upd_n, upd_s, slot_is, slot.eq_1, retA_is, pureOp, apureO, astepO, killT, aev, cv, cvc, binK, elO_s, loadA_p, storeA, cellsA, cellOk, setAll, fillA, placeT, placesA, condA_t, flat_c, ownsV_c, ownsV_sl, ownsL_nil, ownsL_cons, toD_c, toD_nils, toD_tup, toD_agg, consO_some, toDL_nil, toDL_cons, notExit, resA_nil, resA_tmp, resA_cell, oneA_2, Bool.false_eq_true, ↓reduceIte, List.getElem?_cons_zero, List.length_cons, List.length_nil, List.map_cons, List.map_nil, List.append_nil, List.set_cons_zero, List.set_cons_succ, Option.map_some, List.take_succ_cons, List.drop_zero, List.all_cons, List.all_nil, Bool.true_and, Bool.and_self, Bool.or_true, Value.oneCell', true_and, and_self, ne_eq, not_false_eq_true, reduceCtorEq, Nat.reduceAdd, Nat.reduceEqDiff, Nat.zero_add, List.isEmpty_nil, Nat.le_refl, List.take_nil, Ty.td9, Ty.td22, Ty.td29, show (k != 0) = true by simpa using hk]

def dV (k : Nat) : AV := match k with | 0 => .nils | _ + 1 => .own 3 1 k
def eV (k : Nat) : AV := match k with | 0 => .nils | _ + 1 => .own 5 1 k
def aH (k : Nat) (L : List (List Int)) (E : List ByteArray) : Heap := match k with
  | 0 => [some (.var 29 [.c (.string ⟨#[]⟩), .nils, .nils])]
  | _ + 1 => [some (.var 29 [.c (.string ⟨#[]⟩), .nils, .nils]), none, none, some (.row 22 1 (L.map fun d => [ints d])), none, some (.row 9 1 (E.map fun s => [S s]))]

/-- The element type, the dimensions, and what becomes of it. -/
def Ends (e : ByteArray) (zs : List Int) (num : Int) (l : List Ar) (o : Op13) (R : AV) : Prop :=
  (l.any badA = true ∧ R = zero0 1) ∨
  (l.any badA = false ∧ (resE e (l.map (·.1))).2 = false ∧ R = zero0 12) ∨
  ∃ el, l.any badA = false ∧ resE e (l.map (·.1)) = (el, true) ∧
    ((∃ out er, rdE o zs num (l.map (·.2.1)) = (out, er) ∧ er ≠ 0 ∧ R = zero0 er) ∨
    ∃ out size f E D X q v, rdE o zs num (l.map (·.2.1)) = (out, 0) ∧ (size = if 0 < zs.length then zs.getD 0 0 else num) ∧ (∀ x y : Nat, (x : Int) < rowsN out → (y : Int) < colsN out → El o size l x y (f x y)) ∧
      ofE el out (gatherE out f) = .tup [arr E D X, I q] ∧ (isNm e = false ∧ v = false ∨ isNm e = true ∧ ∃ t d, Dat l 1 0 t ∧ Dim l 0 d ∧ v = !insideE t d) ∧ R = .tup [arr E D X, B v, I q])

theorem size_ok {ds : List Int} (h : (sizeE ds).2 = 0) : ∀ d ∈ ds, 0 ≤ d ∧ d ≤ 4096 := by
  unfold sizeE at h
  split at h
  · simp at h
  split at h
  · simp at h
  · rename_i h1
    intro d hd
    have : badDim d = false := by
      cases hb : badDim d with
      | false => rfl
      | true => exact absurd (List.any_eq_true.2 ⟨d, hd, hb⟩) h1
    simp [badDim] at this
    omega

theorem rd_ok {o : Op13} {zs : List Int} {num : Int} {L : List (List Int)} {out : List Int} (h : rdE o zs num L = (out, 0)) : out.length ≤ 2 ∧ (0 ≤ rowsN out ∧ rowsN out ≤ 4096) ∧ (0 ≤ colsN out ∧ colsN out ≤ 4096) ∧ (sizeE out).2 = 0 := by
  have hl := dm_len o (kOf o zs num L.length) L.flatten
  have hz : out.length ≤ 2 ∧ (sizeE out).2 = 0 := by
    unfold rdE at h
    split at h
    · simp at h
    split at h
    · rename_i h1; simp at h; exact absurd h.2 h1
    split at h
    · rename_i h1; simp at h; exact absurd h.2 h1
    split at h
    · rename_i h1; simp at h; exact absurd h.2 h1
    · rename_i h1
      simp at h
      rw [h] at hl h1
      exact ⟨hl, by simpa using h1⟩
  have hk := size_ok hz.2
  refine ⟨hz.1, ?_, ?_, hz.2⟩
  · match out, hk with
    | [], _ => simp [rowsN]
    | d :: _, hk => exact hk d (by simp)
  · match out, hk with
    | [], _ => simp [colsN]
    | [_], _ => simp [colsN]
    | _ :: d :: _, hk => exact hk d (by simp)

theorem gather_len {out : List Int} {f : Int → Int → Int} (h2 : out.length ≤ 2) (hz : (sizeE out).2 = 0) : (gatherE out f).length = (sizeE out).1.toNat := by
  have hk := size_ok hz
  unfold gatherE
  rw [pre_len]
  unfold sizeE at hz ⊢
  split at hz
  · simp at hz
  split at hz
  · simp at hz
  rename_i q1 q2
  rw [if_neg q1, if_neg q2]
  split at hz
  · rename_i q3
    rw [if_pos q3]
    match out, h2, hk with
    | [], _, _ => simp at q3
    | [a], _, _ => simp at q3; subst q3; rfl
    | [a, b], _, _ =>
      simp at q3
      rcases q3 with rfl | rfl
      · simp [rowsN]
      · simp [colsN]
  · rename_i q3
    rw [if_neg q3]
    match out, h2, hk with
    | [], _, _ => rfl
    | [a], _, hk =>
      have := hk a (by simp)
      simp only [prodE, rowsN, colsN] at hz ⊢
      rw [wrap_in (x := 1 * a) (by omega) (by omega)] at hz ⊢
      split
      · omega
      · simp
    | [a, b], _, hk =>
      have h1 := hk a (by simp)
      have h2 := hk b (by simp)
      have hab : 0 ≤ a * b := Int.mul_nonneg h1.1 h2.1
      have hab2 : a * b ≤ 4096 * 4096 := by
        have := Int.mul_le_mul h1.2 h2.2 h2.1 (by omega : (0 : Int) ≤ 4096)
        omega
      simp only [prodE, rowsN, colsN] at hz ⊢
      rw [wrap_in (x := 1 * a) (by omega) (by omega), Int.one_mul, wrap_in (x := a * b) (by omega) (by omega)] at hz ⊢
      rw [if_neg (by omega)] at hz ⊢
      split at hz
      · simp at hz
      · rename_i h3
        rw [if_neg h3]
        simp only
        rw [Int.toNat_mul h1.1 h2.1]

theorem isNm_true {e : ByteArray} (hn : isNm e = true) : is_index e = true ∨ (is_index e = false ∧ is_update e = true) := by
  unfold isNm at hn
  cases h1 : is_index e with
  | true => exact Or.inl rfl
  | false =>
    rw [h1, Bool.false_or] at hn
    exact Or.inr ⟨rfl, hn⟩
theorem rfc (k : Nat) (o : Op13) : refsL k (dC o) = true := by cases o <;> rfl
theorem ndc (o : Op13) : namesL (dC o) = [] := by cases o <;> rfl

set_option maxHeartbeats 2000000 in
theorem apply_ {e : ByteArray} {zs : List Int} {num : Int} {l : List Ar} {o : Op13} {R : AV} (ho : opOf e = some o) (hform : formB o zs.length l.length num = true) (hl : l.length ≤ 1000000) (hs : ∀ a ∈ l, smallA a) (hR : Ends e zs num l o R) :
    Meets Try.prog 11 [S e, ints zs, I num, arrs l] R := by
  have hc := checkForm_ e zs num l.length
  rw [form_is ho, if_pos hform] at hc
  refine meets_of (X := true) Ty.mixed Try.func11 (by kernel_rfl) rfl (by kernel_rfl) (by simp) ?_; rw [Try.ntmps11, Try.results11]
  simp only [awp_reg, awp_seq, seqQ_n, awpOps_nil, awpOps_one, awpOp_is, isCallV, callW_is, callV_is, putK_is, updK_is, put_s, upd_s, slot_is, pureOp, apureO, astepO, killT, aev, cv, cvc, elO_s, lenA, lenK, argT, Bool.false_eq_true, ↓reduceIte, List.length_nil, List.map_cons, List.map_nil, List.nil_append, List.append_nil, List.all_cons, List.all_nil, Bool.true_and, Bool.and_self, Value.oneCell', true_and, and_self, reduceCtorEq, Nat.reduceAdd, Nat.reduceEqDiff, Nat.zero_add, Option.isSome_some, Ty.td25, Ty.td29, List.length_map]
  refine call_meets (hc) (by simp only [aev, cv, cvc, toD_c, toD_sl, consO_some, toDL_nil, toDL_cons] <;> rfl) ?_; simp only [awp_skip, awp_reg, awp_seq, awp_cond, awp_block, awp_loop, seqQ_n, awpOps_nil, awpOps_one, awpOp_is, putK_is, put_s, upd_s, slot_is, pureOp, apureO, killT, aev, cv, cvc, binK, elO_s, lenA, lenK, condA_f, flat_c, ownsV_c, ownsV_sl, ownsL_nil, ownsL_cons, ↓reduceIte, List.append_nil, Bool.true_and, Bool.or_true, true_and, reduceCtorEq, Nat.reduceEqDiff, List.isEmpty_nil, Option.isSome_some, Ty.td25, bne_self_eq_false, List.length_map]
  refine loop_g (fun k : Nat => k ≤ l.length ∧ l.any badA = (l.drop k).any badA) (fun k => ⟨115, [(35, I k), (34, I l.length), (33, arrs l), (12, dV k), (13, eV k), (0, S e), (1, ints zs), (2, I num), (3, arrs l), (8, .ptr 0 0)], aH k ((l.take k).map (·.2.1)) ((l.take k).map (·.1))⟩) (fun k => l.length - k) 0 ⟨Nat.zero_le _, rfl⟩ (by simp only [slot_is, aev, cv, cvc, Weak, ↓reduceIte, Bool.and_true, Bool.and_self, and_true, and_self, reduceCtorEq, Nat.reduceEqDiff, dV, eV] <;> simp) rfl (.inl (by simp [aH])) ?_
  rintro k ⟨hk, hi⟩ K hK
  simp only at hK
  simp only [awp_reg, awp_seq, awp_cond, seqQ_n, awpOps_nil, awpOps_one, awpOp_is, putK_is, put_s, slot_is, pureOp, apureO, aev, cv, cvc, binK, ↓reduceIte, Bool.true_and, true_and, Nat.reduceEqDiff]
  refine condA_dec (fun hlt => ?_) (fun hge => ?_)
  · have hlt' : k < l.length := by omega
    have hx : l[k]? = some l[k] := List.getElem?_eq_getElem hlt'
    rw [List.drop_eq_getElem_cons hlt', List.any_cons] at hi
    have hsm := hs l[k] (List.getElem_mem _)
    have hv := isValid l[k].1 l[k].2.1 l[k].2.2 hsm.1 hsm.2
    have hnx := hK (k + 1)
    rw [List.take_succ_eq_append_getElem hlt', List.map_append, List.map_append] at hnx
    simp only [List.map_cons, List.map_nil] at hnx
    generalize l[k] = a at *
    obtain ⟨ae, ad, ax⟩ := a
    simp only at hsm hv hnx hi
    cases hb : badA (ae, ad, ax) with
    | true =>
      have hb' : (checkE ae ad ax == 0) = false := by simpa [badA] using hb
      rw [hb, Bool.true_or] at hi
      rw [hb'] at hv
      have hR0 : R = zero0 1 := by
        rcases hR with ⟨_, h⟩ | ⟨h, _⟩ | ⟨_, h, _⟩
        · exact h
        · rw [hi] at h; cases h
        · rw [hi] at h; cases h
      subst hR0
      cases k with
      | zero =>
        simp only [awp_skip, awp_reg, awp_seq, awp_block, seqQ_n, awpOps_nil, awpOps_one, awpOp_is, isCallV, callW_is, callV_is, putK_is, updK_is, put_s, upd_n, upd_s, slot_is, pureOp, apureO, astepO, killT, aev, cv, cvc, elO_s, loadA_d, loadA_p, storeA, cellsA, cellOk, setAll, Int.natCast_nonneg, Bool.false_eq_true, ↓reduceIte, List.getElem?_cons_zero, List.getElem?_cons_succ, List.length_cons, List.length_nil, List.map_cons, List.map_nil, List.cons_append, List.nil_append, List.append_nil, List.set_cons_zero, List.set_cons_succ, Option.map_some, List.take_succ_cons, List.drop_zero, List.all_cons, List.all_nil, Bool.true_and, Bool.and_self, Value.oneCell', true_and, and_self, Nat.reduceAdd, Nat.reduceEqDiff, Nat.zero_add, Int.toNat_natCast, Nat.le_refl, List.take_nil, Ty.td25, Ty.td29, dV, eV, aH, List.getElem?_map, hx, encA]
        refine call_meets (hv) (by simp only [aev, cv, cvc, toD_c, toD_agg, toD_sl, consO_some, toDL_nil, toDL_cons, Option.map_some] <;> rfl) ?_; simp only [awp_reg, awp_seq, awp_cond, awp_ret, seqQ_n, seqQ_r, loopQ_r, blkQ_r, awpOps_nil, awpOps_one, awpOp_is, isCallV, putK_is, updK_is, put_s, upd_n, upd_s, slot_is, slot.eq_1, retA_is, pureOp, apureO, astepO, killT, aev, cv, cvc, elO_s, loadA_p, storeA, cellsA, cellOk, setAll, fillA, placeT, placesA, condA_t, flat_c, ownsV_c, ownsV_agg, ownsV_sl, ownsL_nil, ownsL_cons, toD_c, toD_nils, toD_tup, toD_agg, consO_some, toDL_nil, toDL_cons, notExit, resA_nil, resA_tmp, resA_cell, oneA_2, Bool.false_eq_true, ↓reduceIte, List.getElem?_cons_zero, List.length_cons, List.length_nil, List.map_cons, List.map_nil, List.append_nil, List.set_cons_zero, List.set_cons_succ, Option.map_some, List.take_succ_cons, List.drop_zero, List.all_cons, List.all_nil, Bool.true_and, Bool.and_self, Bool.or_true, Bool.not_false, Value.oneCell', true_and, and_self, ne_eq, not_false_eq_true, reduceCtorEq, Nat.reduceAdd, Nat.reduceEqDiff, Nat.zero_add, List.isEmpty_nil, Nat.le_refl, List.take_nil, Ty.td9, Ty.td22, Ty.td29]
      | succ k =>
        simp only [awp_skip, awp_reg, awp_seq, awp_block, seqQ_n, awpOps_nil, awpOps_one, awpOp_is, isCallV, callW_is, callV_is, putK_is, updK_is, put_s, upd_n, upd_s, slot_is, pureOp, apureO, astepO, killT, aev, cv, cvc, elO_s, loadA_d, loadA_p, storeA, cellsA, cellOk, setAll, Int.natCast_nonneg, Bool.false_eq_true, ↓reduceIte, List.getElem?_cons_zero, List.getElem?_cons_succ, List.length_cons, List.length_nil, List.map_cons, List.map_nil, List.cons_append, List.nil_append, List.append_nil, List.set_cons_zero, List.set_cons_succ, Option.map_some, List.take_succ_cons, List.drop_zero, List.all_cons, List.all_nil, Bool.true_and, Bool.and_self, Value.oneCell', true_and, and_self, Nat.reduceAdd, Nat.reduceEqDiff, Nat.zero_add, Int.toNat_natCast, Nat.le_refl, List.take_nil, Ty.td25, Ty.td29, dV, eV, aH, List.getElem?_map, hx, encA]
        refine call_meets (hv) (by simp only [aev, cv, cvc, toD_c, toD_agg, toD_sl, consO_some, toDL_nil, toDL_cons, Option.map_some] <;> rfl) ?_; simp only [awp_reg, awp_seq, awp_cond, awp_ret, seqQ_n, seqQ_r, loopQ_r, blkQ_r, awpOps_nil, awpOps_one, awpOp_is, isCallV, putK_is, updK_is, put_s, upd_n, upd_s, slot_is, slot.eq_1, retA_is, pureOp, apureO, astepO, killT, aev, cv, cvc, elO_s, loadA_p, storeA, cellsA, cellOk, setAll, fillA, placeT, placesA, condA_t, flat_c, ownsV_c, ownsV_agg, ownsV_sl, ownsL_nil, ownsL_cons, toD_c, toD_nils, toD_tup, toD_agg, consO_some, toDL_nil, toDL_cons, notExit, resA_nil, resA_tmp, resA_cell, oneA_2, Bool.false_eq_true, ↓reduceIte, List.getElem?_cons_zero, List.length_cons, List.length_nil, List.map_cons, List.map_nil, List.append_nil, List.set_cons_zero, List.set_cons_succ, Option.map_some, List.take_succ_cons, List.drop_zero, List.all_cons, List.all_nil, Bool.true_and, Bool.and_self, Bool.or_true, Bool.not_false, Value.oneCell', true_and, and_self, ne_eq, not_false_eq_true, reduceCtorEq, Nat.reduceAdd, Nat.reduceEqDiff, Nat.zero_add, List.isEmpty_nil, Nat.le_refl, List.take_nil, Ty.td9, Ty.td22, Ty.td29]
    | false =>
      have hb' : (checkE ae ad ax == 0) = true := by simpa [badA] using hb
      rw [hb, Bool.false_or] at hi
      rw [hb'] at hv
      have hlL : ((l.take k).map (·.2.1)).length = k := by simp; omega
      have hlE : ((l.take k).map (·.1)).length = k := by simp; omega
      generalize (l.take k).map (·.2.1) = L at *
      generalize (l.take k).map (·.1) = E at *
      cases k with
      | zero =>
        obtain rfl := List.eq_nil_of_length_eq_zero hlL
        obtain rfl := List.eq_nil_of_length_eq_zero hlE
        simp only [awp_skip, awp_reg, awp_seq, awp_block, seqQ_n, awpOps_nil, awpOps_one, awpOp_is, isCallV, callW_is, callV_is, putK_is, updK_is, put_s, upd_n, upd_s, slot_is, pureOp, apureO, astepO, killT, aev, cv, cvc, elO_s, loadA_d, loadA_p, storeA, cellsA, cellOk, setAll, Int.natCast_nonneg, Bool.false_eq_true, ↓reduceIte, List.getElem?_cons_zero, List.getElem?_cons_succ, List.length_cons, List.length_nil, List.map_cons, List.map_nil, List.cons_append, List.nil_append, List.append_nil, List.set_cons_zero, List.set_cons_succ, Option.map_some, List.take_succ_cons, List.drop_zero, List.all_cons, List.all_nil, Bool.true_and, Bool.and_self, Value.oneCell', true_and, and_self, Nat.reduceAdd, Nat.reduceEqDiff, Nat.zero_add, Int.toNat_natCast, Nat.le_refl, List.take_nil, Ty.td25, Ty.td29, dV, eV, aH, List.getElem?_map, hx, encA]
        refine call_meets (hv) (by simp only [aev, cv, cvc, toD_c, toD_agg, toD_sl, consO_some, toDL_nil, toDL_cons, Option.map_some, wrap_in (x := ((0 : Nat) : Int) + 1) (by omega) (by omega)] <;> rfl) ?_; simp only [awp_regX, awp_skip, awp_cond, seqQ_n, awpOps_nil, awpOps_one, awpOp_is, putK_is, put_s, upd_s, slot_is, pureOp, apureO, killT, aev, cv, cvc, condA_f, flat_c, ownsV_c, ownsV_agg, ownsV_sl, ownsL_nil, ownsL_cons, ↓reduceIte, List.append_nil, Bool.or_true, Bool.not_true, List.isEmpty_nil, wrap_in (x := ((0 : Nat) : Int) + 1) (by omega) (by omega)]
        refine drawS_wild ?_; simp (config := {maxSteps := 2000000}) only [awp_reg, seqQ_n, loopQ_n, blkQ_n, awpOps_nil, awpOps_one, awpOp_is, isCallV, putK_is, put_s, slot_is, slot.eq_1, pureOp, apureO, astepO, bsEnd_is, appA_own, appV, killT, killB, aev, cv, cvc, binK, elO_s, loadA_p, cellsA, cellOk, setAll, fillA, elemsA, elemsN, chunk, isD_c, isD_sl, isDL_nil, isDL_cons, killV_c, killV_nils, killV_sl, killL_nil, killL_cons, Bool.false_eq_true, ↓reduceIte, List.getElem?_cons_zero, List.getElem?_cons_succ, List.length_cons, List.length_nil, List.map_cons, List.map_nil, List.cons_append, List.nil_append, List.append_nil, List.set_cons_zero, Option.getD_some, List.take_succ_cons, List.drop_succ_cons, List.drop_zero, List.all_cons, List.all_nil, Bool.and_true, Bool.true_and, Bool.and_self, Bool.or_true, Bool.false_or, Bool.or_false, Value.oneCell', true_and, and_true, and_self, ne_eq, not_false_eq_true, reduceCtorEq, Nat.reduceAdd, Nat.reduceMul, Nat.reduceLT, Nat.reduceLeDiff, Nat.reduceEqDiff, Nat.reduceMod, Nat.zero_add, List.mem_cons, List.not_mem_nil, or_false, false_or, List.range_succ, List.range_zero, decide_true, List.zipIdx_cons, List.zipIdx_nil, Nat.le_refl, List.drop_nil, List.take_nil, List.any_cons, List.any_nil, awpW_nil, awpW_one, wRun_is, wOp_is, keepK_is, stepK_is, contW_is, nextW_s, confs_nil, confs_cons, conf_is, meet_nil, meet_cons, opV_move, opV_assign, opV_load, opV_fieldAddr, opV_buildSlice, opV_builtin, tch_move, tch_assign, tch_load, tch_fieldAddr, tch_buildSlice, tch_app, rd_move, rd_assign, rd_load, rd_fieldAddr, rd_buildSlice, rd_app, namesV_c, namesV_nils, namesV_sl, namesV_ptr, namesV_own, namesV_agg, namesL_nil, namesL_cons, namesH_nil, namesH_cons, namesB_var, namesB_row, namesB_none, killO_s, allLt_is, maskH_is, mergeH_is, setH_is, newL_is, refsT, refsH, refsV, refsL, Bool.or_self, Nat.reduceBEq, Ty.td9, Ty.td22, Ty.td29, Ty.td34, Ty.td35, wrap_in (x := ((0 : Nat) : Int) + 1) (by omega) (by omega)]
        repeat refine ⟨by omega, ?_⟩
        refine ⟨by kernel_rfl, ?_⟩
        refine hnx _ ⟨hlt', hi⟩ (by omega) ?_ rfl (.weak (by simp [aH]) (by simp [WeakH, aH]) rfl rfl)
        simp only [slot_is, aev, cv, cvc, Weak, ↓reduceIte, Bool.and_true, Bool.and_self, and_true, and_self, reduceCtorEq, Nat.reduceEqDiff, Nat.zero_add, dV, eV]
        simp
      | succ k =>
        have hb1 : List.take (k + 1) (L.map fun d => [ints d]) = L.map fun d => [ints d] := List.take_of_length_le (by simp; omega)
        have hb2 : List.take (k + 1) (E.map fun s => [S s]) = E.map fun s => [S s] := List.take_of_length_le (by simp; omega)
        simp only [awp_skip, awp_reg, awp_seq, awp_block, seqQ_n, awpOps_nil, awpOps_one, awpOp_is, isCallV, callW_is, callV_is, putK_is, updK_is, put_s, upd_n, upd_s, slot_is, pureOp, apureO, astepO, killT, aev, cv, cvc, elO_s, loadA_d, loadA_p, storeA, cellsA, cellOk, setAll, Int.natCast_nonneg, Bool.false_eq_true, ↓reduceIte, List.getElem?_cons_zero, List.getElem?_cons_succ, List.length_cons, List.length_nil, List.map_cons, List.map_nil, List.cons_append, List.nil_append, List.append_nil, List.set_cons_zero, List.set_cons_succ, Option.map_some, List.take_succ_cons, List.drop_zero, List.all_cons, List.all_nil, Bool.true_and, Bool.and_self, Value.oneCell', true_and, and_self, Nat.reduceAdd, Nat.reduceEqDiff, Nat.zero_add, Int.toNat_natCast, Nat.le_refl, List.take_nil, Ty.td25, Ty.td29, dV, eV, aH, List.getElem?_map, hx, encA]
        refine call_meets (hv) (by simp only [aev, cv, cvc, toD_c, toD_agg, toD_sl, consO_some, toDL_nil, toDL_cons, Option.map_some, wrap_in (x := ((k + 1 : Nat) : Int) + 1) (by omega) (by omega)] <;> rfl) ?_; simp only [awp_regX, awp_skip, awp_cond, seqQ_n, awpOps_nil, awpOps_one, awpOp_is, putK_is, put_s, upd_s, slot_is, pureOp, apureO, killT, aev, cv, cvc, condA_f, flat_c, ownsV_c, ownsV_agg, ownsV_sl, ownsL_nil, ownsL_cons, ↓reduceIte, List.append_nil, Bool.or_true, Bool.not_true, List.isEmpty_nil, wrap_in (x := ((k + 1 : Nat) : Int) + 1) (by omega) (by omega)]
        refine drawS_wild ?_; simp (config := {maxSteps := 2000000}) only [awp_reg, seqQ_n, loopQ_n, blkQ_n, awpOps_nil, awpOps_one, awpOp_is, isCallV, putK_is, put_s, slot_is, slot.eq_1, pureOp, apureO, astepO, bsEnd_is, appA_own, appV, killT, killB, killH, aev, cv, cvc, binK, elO_s, loadA_p, cellsA, cellOk, setAll, fillA, elemsA, elemsN, rowE, chunk, isD_c, isD_sl, isDL_nil, isDL_cons, killV_c, killV_nils, killV_junk, killV_agg, killV_sl, killV_own, killV_dptr, killV_ptr, killL_nil, killL_cons, Bool.false_eq_true, ↓reduceIte, List.getElem?_cons_zero, List.getElem?_cons_succ, List.length_cons, List.length_nil, List.map_cons, List.map_nil, List.cons_append, List.nil_append, List.append_nil, List.set_cons_zero, List.set_cons_succ, Option.map_some, Option.map_none, Option.getD_some, List.take_succ_cons, List.drop_succ_cons, List.drop_zero, List.all_cons, List.all_nil, Bool.and_true, Bool.true_and, Bool.and_self, Bool.or_true, Bool.true_or, Bool.false_or, Bool.or_false, Value.oneCell', true_and, and_true, and_self, ne_eq, not_false_eq_true, reduceCtorEq, Nat.reduceAdd, Nat.reduceMul, Nat.reduceLT, Nat.reduceLeDiff, Nat.reduceEqDiff, Nat.reduceMod, Nat.zero_add, List.mem_cons, List.not_mem_nil, or_false, false_or, List.range_succ, List.range_zero, decide_true, List.zipIdx_cons, List.zipIdx_nil, Nat.le_refl, List.drop_nil, List.take_nil, List.any_cons, List.any_nil, List.getElem?_nil, true_or, awpW_nil, awpW_one, wRun_is, wOp_is, keepK_is, stepK_is, contW_is, nextW_s, confs_nil, confs_cons, conf_is, meet_nil, meet_cons, opV_move, opV_assign, opV_load, opV_fieldAddr, opV_buildSlice, opV_builtin, tch_move, tch_assign, tch_load, tch_fieldAddr, tch_buildSlice, tch_app, rd_move, rd_assign, rd_load, rd_fieldAddr, rd_buildSlice, rd_app, namesV_c, namesV_sl, namesV_ptr, namesV_own, namesV_agg, namesL_nil, namesL_cons, namesH_nil, namesH_cons, namesB_var, namesB_row, namesB_none, killO_s, killO_n, allLt_is, maskH_is, mergeH_is, setH_is, newL_is, refsT, refsH, refsV, refsL, Bool.or_self, true_or, Nat.reduceBEq, List.getElem?_nil, Ty.td9, Ty.td22, Ty.td29, Ty.td34, Ty.td35, List.length_map, hlL, hlE, hb1, hb2, wrap_in (x := ((k + 1 : Nat) : Int) + 1) (by omega) (by omega)]
        repeat refine ⟨by omega, ?_⟩
        refine ⟨by kernel_rfl, ?_⟩
        refine hnx _ ⟨hlt', hi⟩ (by omega) ?_ rfl (.weak (by simp [aH]) (by simp [WeakH, aH]) rfl rfl)
        simp only [slot_is, aev, cv, cvc, Weak, ↓reduceIte, Bool.and_true, Bool.and_self, and_true, and_self, reduceCtorEq, Nat.reduceEqDiff, dV, eV]
        simp
  · have hk' : k = l.length := by omega
    subst hk'
    rw [List.drop_length] at hi
    rw [List.take_length]
    clear hK hge hk
    have hR := hR.resolve_left (fun h => by rw [hi] at h; cases h.1)
    have hlE : (l.map (·.1)).length = l.length := by simp
    have hlL : (l.map (·.2.1)).length = l.length := by simp
    have hres := result_ e (l.map (·.1)) (by omega)
    have hdims := resultDims_ (L := l.map (·.2.1)) ho (by rw [hlL]; exact hform) (by omega) (fun d hd => by
      obtain ⟨a, ha, rfl⟩ := List.mem_map.1 hd
      exact (hs a ha).1)
    have hl0 : l.length = 0 → l.map (·.1) = [] ∧ l.map (·.2.1) = [] := fun h => by rw [List.eq_nil_of_length_eq_zero h]; exact ⟨rfl, rfl⟩
    generalize l.map (·.1) = E at *
    generalize l.map (·.2.1) = L at *
    have hf := find_row e
    rw [ho] at hf
    simp only at hf
    rcases hR with ⟨_, h2, rfl⟩ | ⟨el, _, h2, ⟨out, er, h3, h4, rfl⟩ | ⟨out, size, f, EE, D, X, q, v, h3, hsz, hel, hof, hv, rfl⟩⟩
    · obtain ⟨r1, r2⟩ : ∃ r1, resE e E = (r1, false) := ⟨_, Prod.ext rfl h2⟩
      rw [r2] at hres
      cases hll : l.length with
      | zero =>
        obtain ⟨h0, h1⟩ := hl0 hll
        subst h0 h1
        have hres0 : Meets Try.prog 14 [S e, .nils] _ := Meets.nil (pre := [S e]) (post := []) hres
        simp only [awp_reg, awp_seq, awp_exit, seqQ_n, seqQ_e, loopQ_e, blkQ_e, awpOps_one, awpOp_is, isCallV, callW_is, callV_is, putK_is, put_s, slot_is, pureOp, apureO, aev, cv, cvc, Bool.false_eq_true, ↓reduceIte, List.map_cons, List.map_nil, List.append_nil, reduceCtorEq, Nat.reduceEqDiff, dV, eV, aH, hll]
        refine call_meets (hres0) (by simp only [aev, cv, cvc, toD_c, toD_nils, consO_some, toDL_nil, toDL_cons] <;> rfl) ?_; simp only [awp_reg, awp_seq, awp_cond, awp_ret, seqQ_n, seqQ_r, awpOps_nil, awpOps_one, awpOp_is, isCallV, putK_is, updK_is, put_s, upd_n, upd_s, slot_is, slot.eq_1, retA_is, pureOp, apureO, astepO, killT, aev, cv, cvc, elO_s, loadA_p, storeA, cellsA, cellOk, setAll, fillA, placeT, placesA, condA_t, flat_c, flat_tup, flatL_nil, flatL_cons, ownsV_c, ownsV_nils, ownsL_nil, ownsL_cons, toD_c, toD_nils, toD_tup, toD_agg, consO_some, toDL_nil, toDL_cons, notExit, resA_nil, resA_tmp, resA_cell, oneA_2, Bool.false_eq_true, ↓reduceIte, List.getElem?_cons_zero, List.getElem?_cons_succ, List.length_cons, List.length_nil, List.map_cons, List.map_nil, List.append_nil, List.set_cons_zero, List.set_cons_succ, Option.map_some, List.take_succ_cons, List.drop_zero, List.all_cons, List.all_nil, Bool.true_and, Bool.and_self, Bool.or_true, Bool.not_false, Value.oneCell', true_and, and_self, ne_eq, not_false_eq_true, reduceCtorEq, Nat.reduceAdd, Nat.reduceEqDiff, Nat.zero_add, List.isEmpty_nil, Nat.le_refl, List.take_nil, Ty.td9, Ty.td22, Ty.td29]
      | succ k =>
        rw [hll] at hlE hlL
        have hb1 : List.take (k + 1) (L.map fun d => [ints d]) = L.map fun d => [ints d] := List.take_of_length_le (by simp; omega)
        have hb2 : List.take (k + 1) (E.map fun s => [S s]) = E.map fun s => [S s] := List.take_of_length_le (by simp; omega)
        simp only [awp_reg, awp_seq, awp_exit, seqQ_n, seqQ_e, loopQ_e, blkQ_e, awpOps_one, awpOp_is, isCallV, callW_is, callV_is, putK_is, put_s, slot_is, pureOp, apureO, aev, cv, cvc, Bool.false_eq_true, ↓reduceIte, List.map_cons, List.map_nil, List.append_nil, reduceCtorEq, Nat.reduceEqDiff, dV, eV, aH, hll]
        refine call_meets (hres) (by simp only [aev, cv, cvc, elemsA, toD_c, toD_own, consO_some, toDL_nil, toDL_cons, ↓reduceIte, List.getElem?_cons_zero, List.getElem?_cons_succ, Option.map_some, Bool.and_self, and_self, Nat.le_refl, List.length_map, hlE, hlL, hb1, hb2] <;> rfl) ?_; simp only [awp_reg, awp_seq, awp_cond, awp_ret, seqQ_n, seqQ_r, awpOps_nil, awpOps_one, awpOp_is, isCallV, putK_is, updK_is, put_s, upd_n, upd_s, slot_is, slot.eq_1, retA_is, pureOp, apureO, astepO, killT, aev, cv, cvc, elO_s, loadA_p, storeA, cellsA, cellOk, setAll, fillA, placeT, placesA, condA_t, flat_c, flat_tup, flatL_nil, flatL_cons, ownsV_c, ownsV_own, ownsL_nil, ownsL_cons, toD_c, toD_nils, toD_tup, toD_agg, consO_some, toDL_nil, toDL_cons, notExit, resA_nil, resA_tmp, resA_cell, oneA_2, Bool.false_eq_true, ↓reduceIte, List.getElem?_cons_zero, List.getElem?_cons_succ, List.length_cons, List.length_nil, List.map_cons, List.map_nil, List.nil_append, List.append_nil, List.set_cons_zero, List.set_cons_succ, Option.map_some, List.take_succ_cons, List.drop_zero, List.all_cons, List.all_nil, Bool.true_and, Bool.and_self, Bool.or_false, Bool.not_false, Value.oneCell', true_and, and_self, ne_eq, not_false_eq_true, reduceCtorEq, Nat.reduceAdd, Nat.reduceEqDiff, Nat.zero_add, List.isEmpty_cons, or_false, Nat.le_refl, List.take_nil, Ty.td9, Ty.td22, Ty.td29, List.length_map, hlE, hlL, hb1, hb2]
    · rw [h2] at hres
      rw [h3] at hdims
      cases hll : l.length with
      | zero =>
        obtain ⟨h0, h1⟩ := hl0 hll
        subst h0 h1
        have hres0 : Meets Try.prog 14 [S e, .nils] _ := Meets.nil (pre := [S e]) (post := []) hres
        have hdims0 : Meets Try.prog 36 [S e, ints zs, I num, .nils] _ := Meets.nil (pre := [S e, ints zs, I num]) (post := []) hdims
        simp only [awp_reg, awp_seq, awp_exit, seqQ_n, seqQ_e, loopQ_e, blkQ_e, awpOps_one, awpOp_is, isCallV, callW_is, callV_is, putK_is, put_s, slot_is, pureOp, apureO, aev, cv, cvc, Bool.false_eq_true, ↓reduceIte, List.map_cons, List.map_nil, List.append_nil, reduceCtorEq, Nat.reduceEqDiff, dV, eV, aH, hll]
        refine call_meets (hres0) (by simp only [aev, cv, cvc, toD_c, toD_nils, consO_some, toDL_nil, toDL_cons] <;> rfl) ?_; simp only [awp_skip, awp_reg, awp_seq, awp_cond, seqQ_n, awpOps_nil, awpOps_one, awpOp_is, isCallV, callW_is, callV_is, putK_is, put_s, upd_s, slot_is, pureOp, apureO, killT, aev, cv, cvc, elO_s, condA_f, flat_c, flat_tup, flatL_nil, flatL_cons, ownsV_c, ownsV_nils, ownsL_nil, ownsL_cons, Bool.false_eq_true, ↓reduceIte, List.getElem?_cons_zero, List.getElem?_cons_succ, List.map_cons, List.map_nil, List.append_nil, Bool.and_self, Bool.or_true, Bool.not_true, and_self, reduceCtorEq, Nat.reduceEqDiff, List.isEmpty_nil]
        refine call_meets (hdims0) (by simp only [aev, cv, cvc, toD_c, toD_nils, toD_sl, consO_some, toDL_nil, toDL_cons, show (er != 0) = true by simpa using h4] <;> rfl) ?_; simp only [awp_reg, awp_seq, awp_cond, awp_ret, seqQ_n, seqQ_r, awpOps_nil, awpOps_one, awpOp_is, isCallV, putK_is, updK_is, put_s, upd_n, upd_s, slot_is, slot.eq_1, retA_is, pureOp, apureO, astepO, killT, aev, cv, cvc, binK, elO_s, loadA_p, storeA, cellsA, cellOk, setAll, fillA, placeT, placesA, condA_t, flat_c, flat_tup, flat_sl, flatL_nil, flatL_cons, ownsV_c, ownsV_nils, ownsV_sl, ownsL_nil, ownsL_cons, toD_c, toD_nils, toD_tup, toD_agg, consO_some, toDL_nil, toDL_cons, notExit, resA_nil, resA_tmp, resA_cell, oneA_2, Bool.false_eq_true, ↓reduceIte, List.getElem?_cons_zero, List.getElem?_cons_succ, List.length_cons, List.length_nil, List.map_cons, List.map_nil, List.append_nil, List.set_cons_zero, List.set_cons_succ, Option.map_some, List.take_succ_cons, List.drop_zero, List.all_cons, List.all_nil, Bool.and_true, Bool.true_and, Bool.and_self, Bool.or_true, Value.oneCell', true_and, and_true, and_self, ne_eq, not_false_eq_true, reduceCtorEq, Nat.reduceAdd, Nat.reduceEqDiff, Nat.zero_add, List.isEmpty_nil, Nat.le_refl, List.take_nil, Ty.td9, Ty.td22, Ty.td29, show (er != 0) = true by simpa using h4]
      | succ k =>
        rw [hll] at hlE hlL
        have hb1 : List.take (k + 1) (L.map fun d => [ints d]) = L.map fun d => [ints d] := List.take_of_length_le (by simp; omega)
        have hb2 : List.take (k + 1) (E.map fun s => [S s]) = E.map fun s => [S s] := List.take_of_length_le (by simp; omega)
        simp only [awp_reg, awp_seq, awp_exit, seqQ_n, seqQ_e, loopQ_e, blkQ_e, awpOps_one, awpOp_is, isCallV, callW_is, callV_is, putK_is, put_s, slot_is, pureOp, apureO, aev, cv, cvc, Bool.false_eq_true, ↓reduceIte, List.map_cons, List.map_nil, List.append_nil, reduceCtorEq, Nat.reduceEqDiff, dV, eV, aH, hll]
        refine call_meets (hres) (by simp only [aev, cv, cvc, elemsA, toD_c, toD_own, consO_some, toDL_nil, toDL_cons, ↓reduceIte, List.getElem?_cons_zero, List.getElem?_cons_succ, Option.map_some, Bool.and_self, and_self, Nat.le_refl, List.length_map, hlE, hlL, hb1, hb2] <;> rfl) ?_; simp only [awp_skip, awp_reg, awp_seq, awp_cond, seqQ_n, awpOps_nil, awpOps_one, awpOp_is, isCallV, callW_is, callV_is, putK_is, put_s, upd_s, slot_is, pureOp, apureO, killT, aev, cv, cvc, elO_s, condA_f, flat_c, flat_tup, flatL_nil, flatL_cons, ownsV_c, ownsV_own, ownsL_nil, ownsL_cons, Bool.false_eq_true, ↓reduceIte, List.getElem?_cons_zero, List.getElem?_cons_succ, List.map_cons, List.map_nil, List.nil_append, List.append_nil, Bool.and_self, Bool.or_false, Bool.not_true, and_self, reduceCtorEq, Nat.reduceEqDiff, List.isEmpty_cons, or_false, hlE, hlL, hb1, hb2]
        refine call_meets (hdims) (by simp only [aev, cv, cvc, elemsA, toD_c, toD_sl, toD_own, consO_some, toDL_nil, toDL_cons, ↓reduceIte, List.getElem?_cons_zero, List.getElem?_cons_succ, Option.map_some, Bool.and_self, and_self, Nat.le_refl, List.length_map, hlE, hlL, hb1, hb2, show (er != 0) = true by simpa using h4] <;> rfl) ?_; simp only [awp_reg, awp_seq, awp_cond, awp_ret, seqQ_n, seqQ_r, awpOps_nil, awpOps_one, awpOp_is, isCallV, putK_is, updK_is, put_s, upd_n, upd_s, slot_is, slot.eq_1, retA_is, pureOp, apureO, astepO, killT, killB, killH, aev, cv, cvc, binK, elO_s, loadA_p, storeA, cellsA, cellOk, setAll, fillA, placeT, placesA, condA_t, elemsA, dropL, flat_c, flat_tup, flat_sl, flatL_nil, flatL_cons, ownsV_c, ownsV_sl, ownsV_own, ownsL_nil, ownsL_cons, toD_c, toD_nils, toD_tup, toD_agg, consO_some, toDL_nil, toDL_cons, killV_c, killV_nils, killV_tup, killV_sl, killV_own, killV_ptr, killL_nil, killL_cons, notExit, resA_nil, resA_tmp, resA_cell, oneA_2, Bool.false_eq_true, ↓reduceIte, List.getElem?_cons_zero, List.getElem?_cons_succ, List.length_cons, List.length_nil, List.map_cons, List.map_nil, List.nil_append, List.append_nil, List.set_cons_zero, List.set_cons_succ, Option.map_some, Option.map_none, List.take_succ_cons, List.drop_zero, List.all_cons, List.all_nil, Bool.and_true, Bool.true_and, Bool.and_self, Bool.or_false, Value.oneCell', true_and, and_true, and_self, ne_eq, not_false_eq_true, reduceCtorEq, Nat.reduceAdd, Nat.reduceEqDiff, Nat.zero_add, List.isEmpty_cons, List.mem_cons, List.not_mem_nil, or_false, List.zipIdx_cons, List.zipIdx_nil, Nat.le_refl, List.take_nil, Ty.td9, Ty.td22, Ty.td29, List.length_map, hlE, hlL, hb1, hb2, show (er != 0) = true by simpa using h4]
    · rw [h2] at hres
      obtain ⟨g1, g2, g3, g4⟩ := rd_ok h3
      rw [h3] at hdims
      have hga := gather_ g2 g3 hel
      have hofm := of_ el out (gatherE out f) (by omega) (by rw [gather_len g1 g4]; have := sizeE_bound out; omega)
      rw [hof] at hofm
      cases hll : l.length with
      | zero =>
        obtain ⟨h0, h1⟩ := hl0 hll
        subst h0 h1
        have hres0 : Meets Try.prog 14 [S e, .nils] _ := Meets.nil (pre := [S e]) (post := []) hres
        have hdims0 : Meets Try.prog 36 [S e, ints zs, I num, .nils] _ := Meets.nil (pre := [S e, ints zs, I num]) (post := []) hdims
        simp only [awp_reg, awp_seq, awp_exit, seqQ_n, seqQ_e, loopQ_e, blkQ_e, awpOps_one, awpOp_is, isCallV, callW_is, callV_is, putK_is, put_s, slot_is, pureOp, apureO, aev, cv, cvc, Bool.false_eq_true, ↓reduceIte, List.map_cons, List.map_nil, List.append_nil, reduceCtorEq, Nat.reduceEqDiff, dV, eV, aH, hll]
        refine call_meets (hres0) (by simp only [aev, cv, cvc, toD_c, toD_nils, consO_some, toDL_nil, toDL_cons] <;> rfl) ?_; simp only [awp_skip, awp_reg, awp_seq, awp_cond, seqQ_n, awpOps_nil, awpOps_one, awpOp_is, isCallV, callW_is, callV_is, putK_is, put_s, upd_s, slot_is, pureOp, apureO, killT, aev, cv, cvc, elO_s, condA_f, flat_c, flat_tup, flatL_nil, flatL_cons, ownsV_c, ownsV_nils, ownsL_nil, ownsL_cons, Bool.false_eq_true, ↓reduceIte, List.getElem?_cons_zero, List.getElem?_cons_succ, List.map_cons, List.map_nil, List.append_nil, Bool.and_self, Bool.or_true, Bool.not_true, and_self, reduceCtorEq, Nat.reduceEqDiff, List.isEmpty_nil]
        refine call_meets (hdims0) (by simp only [aev, cv, cvc, toD_c, toD_nils, toD_sl, consO_some, toDL_nil, toDL_cons] <;> rfl) ?_; simp only [awp_skip, awp_reg, awp_seq, awp_cond, seqQ_n, awpOps_nil, awpOps_one, awpOp_is, isCallV, putK_is, updK_is, put_s, upd_n, upd_s, slot_is, slot.eq_1, pureOp, apureO, astepO, killT, aev, cv, cvc, binK, elO_s, lenA, lenK, storeA, cellsA, cellOk, setAll, fillA, placeT, placesA, condA_f, flat_c, flat_tup, flat_sl, flatL_nil, flatL_cons, ownsV_c, ownsV_nils, ownsV_sl, ownsL_nil, ownsL_cons, Bool.false_eq_true, ↓reduceIte, List.getElem?_cons_zero, List.getElem?_cons_succ, List.length_cons, List.length_nil, List.map_cons, List.map_nil, List.cons_append, List.nil_append, List.append_nil, List.set_cons_zero, List.set_cons_succ, List.all_cons, List.all_nil, Bool.and_true, Bool.true_and, Bool.and_self, Bool.or_true, Value.oneCell', true_and, and_true, and_self, ne_eq, not_false_eq_true, reduceCtorEq, Nat.reduceAdd, Nat.reduceLeDiff, Nat.reduceEqDiff, Nat.zero_add, List.isEmpty_nil, Option.isSome_some, Nat.le_refl, Ty.td3, Ty.td22, Ty.td25, Ty.td59, bne_self_eq_false]
        by_cases hz : 0 < zs.length
        case' pos =>
          have hz1 : zs[0]? = some size := by
            rw [hsz, if_pos hz, List.getD_eq_getElem?_getD, List.getElem?_eq_getElem hz]
            rfl
          simp only [awp_reg, awp_seq, seqQ_n, awpOps_nil, awpOps_one, awpOp_is, isCallV, callW_is, callV_is, putK_is, updK_is, put_s, upd_n, slot_is, pureOp, apureO, astepO, killT, aev, cv, cvc, elO_s, loadA_d, storeA, cellsA, cellOk, setAll, condA_t, Bool.false_eq_true, ↓reduceIte, List.getElem?_cons_zero, List.getElem?_cons_succ, List.length_cons, List.length_nil, List.map_cons, List.map_nil, List.append_nil, List.set_cons_zero, List.set_cons_succ, Option.map_some, Bool.true_and, Value.oneCell', true_and, ne_eq, not_false_eq_true, reduceCtorEq, Nat.reduceAdd, Nat.reduceLeDiff, Nat.reduceEqDiff, Nat.zero_add, Int.reduceToNat, Int.le_refl, Ty.td3, Ty.td22, Ty.td59, show decide ((0 : Int) < (zs.length : Int)) = true from by simpa using hz, List.length_map, List.getElem?_map, hz1]
        case' neg =>
          rw [if_neg hz] at hsz
          subst hsz
          simp only [awp_skip, awp_reg, awp_seq, seqQ_n, awpOps_one, awpOp_is, isCallV, callW_is, callV_is, putK_is, put_s, slot_is, pureOp, apureO, aev, cv, cvc, condA_f, Bool.false_eq_true, ↓reduceIte, List.map_cons, List.map_nil, List.append_nil, reduceCtorEq, show decide ((0 : Int) < (zs.length : Int)) = false from by simpa using hz, List.length_map]
        all_goals
          refine call_meets (hf) (by simp only [aev, cv, cvc, toD_c, consO_some, toDL_nil, toDL_cons] <;> rfl) ?_; simp only [awp_reg, awp_seq, seqQ_n, awpOps_nil, awpOps_one, awpOp_is, isCallV, callW_is, callV_is, putK_is, updK_is, put_s, upd_n, upd_s, slot_is, pureOp, apureO, astepO, killT, aev, cv, cvc, elO_s, loadA_p, storeA, cellsA, cellOk, setAll, flat_c, flat_tup, flat_agg, flat_sl, flat_fn, flatL_nil, flatL_cons, ownsV_c, ownsL_nil, ownsL_cons, Bool.false_eq_true, ↓reduceIte, List.getElem?_cons_zero, List.getElem?_cons_succ, List.length_cons, List.length_nil, List.map_cons, List.map_nil, List.cons_append, List.nil_append, List.append_nil, List.set_cons_zero, List.set_cons_succ, List.take_succ_cons, List.drop_zero, List.all_cons, List.all_nil, Bool.and_true, Bool.true_and, Bool.and_false, Bool.and_self, Bool.or_true, Value.oneCell', true_and, and_true, and_self, ne_eq, not_false_eq_true, reduceCtorEq, Nat.reduceAdd, Nat.reduceEqDiff, Nat.zero_add, List.isEmpty_nil, Nat.le_refl, List.take_nil, Ty.td59, Ty.td61, Ty.td63]
          refine call_meets (hga) (by simp only [aev, cv, cvc, toD_c, toD_agg, toD_sl, toD_fn, consO_some, toDL_nil, toDL_cons, Option.map_some] <;> rfl) ?_; simp only [awpOps_one, awpOp_is, isCallV, callW_is, callV_is, upd_s, slot_is, pureOp, killT, aev, cv, cvc, flat_sl, ownsV_c, ownsV_agg, ownsV_sl, ownsV_fn, ownsL_nil, ownsL_cons, Bool.false_eq_true, ↓reduceIte, List.map_cons, List.map_nil, List.append_nil, Bool.or_true, Nat.reduceEqDiff, List.isEmpty_nil]
          refine call_meets (hofm) (by simp only [aev, cv, cvc, toD_c, toD_sl, consO_some, toDL_nil, toDL_cons] <;> rfl) ?_; simp only [awp_reg, awp_seq, seqQ_n, awpOps_nil, awpOps_one, awpOps_if, awpOp_is, isCallV, putK_is, updK_is, put_s, upd_n, upd_s, slot_is, pureOp, apureO, astepO, killT, aev, cv, cvc, binK, elO_s, storeA, cellsA, cellOk, setAll, yieldA, flat_c, flat_tup, flat_agg, flat_sl, flatL_nil, flatL_cons, ownsV_c, ownsV_sl, ownsL_nil, ownsL_cons, Bool.false_eq_true, ↓reduceIte, List.getElem?_cons_zero, List.getElem?_cons_succ, List.length_cons, List.length_nil, List.append_nil, List.set_cons_zero, List.set_cons_succ, List.getElem?_toArray, Option.bind_some, Bool.and_true, Bool.true_and, Bool.and_false, Bool.and_self, Bool.or_true, true_and, and_true, and_self, reduceCtorEq, Nat.reduceAdd, Nat.reduceEqDiff, Nat.zero_add, List.isEmpty_nil, Nat.le_refl, Ty.td29]
        all_goals
          rcases hv with ⟨hn, rfl⟩ | ⟨hn, t, d, ht, hd, rfl⟩
          · have hq1 : is_index e = false ∧ is_update e = false := by simpa [isNm] using hn
            simp only [awp_regX, awp_seq, seqQ_n, awpOps_nil, awpOps_one, awpOps_if, awpOp_is, awpO_is, putK_is, put_s, slot_is, pureOp, apureO, aev, cv, cvc, binK, yieldA, guardA_ff, pickA_f, ↓reduceIte, List.getElem?_cons_zero, List.getElem?_cons_succ, List.getElem?_toArray, Option.bind_some, reduceCtorEq, Nat.reduceEqDiff, hq1.1, hq1.2]
            refine drawS_wild ?_; simp (config := {maxSteps := 2000000}) only [awp_ret, seqQ_n, isCallV, put_s, slot_is, retA_is, pureOp, apureO, astepO, killT, killB, aev, cv, cvc, elO_s, loadA_p, storeA, cellsA, cellOk, setAll, yieldA, pickA_f, toD_c, toD_tup, toD_agg, toD_sl, consO_some, toDL_nil, toDL_cons, killV_c, killV_sl, killV_fn, killL_nil, killL_cons, notExit, resA_nil, resA_tmp, resA_cell, oneA_2, Bool.false_eq_true, ↓reduceIte, List.getElem?_cons_zero, List.getElem?_cons_succ, List.length_cons, List.length_nil, List.map_cons, List.map_nil, List.cons_append, List.nil_append, List.append_nil, List.set_cons_zero, List.set_cons_succ, List.getElem?_toArray, Option.bind_some, Option.map_some, List.take_succ_cons, List.drop_succ_cons, List.drop_zero, List.all_cons, List.all_nil, Bool.and_true, Bool.true_and, Bool.and_self, Bool.or_true, Bool.true_or, Bool.false_or, Bool.or_false, Value.oneCell', true_and, and_true, and_self, reduceCtorEq, Nat.reduceAdd, Nat.reduceLT, Nat.reduceLeDiff, Nat.reduceEqDiff, Nat.zero_add, List.mem_cons, List.not_mem_nil, or_false, false_or, List.range_succ, List.range_zero, decide_true, List.zipIdx_cons, List.zipIdx_nil, Nat.le_refl, List.drop_nil, List.take_nil, List.any_cons, List.any_nil, true_or, awpW_nil, awpW_one, awpW_if, guardW_tf, skipW_is, wRun_is, wOp_is, keepK_is, stepK_is, contW_is, nextW_n, nextW_s, confs_nil, confs_cons, conf_is, meet_nil, meet_cons, opV_move, opV_assign, opV_load, opV_pick, opV_store, tch_move, tch_assign, tch_load, tch_pick, tch_store, rd_move, rd_assign, rd_load, rd_pick, rd_store, namesV_c, namesV_junk, namesV_sl, namesV_ptr, namesV_agg, namesV_tup, namesL_nil, namesL_cons, namesH_nil, namesH_cons, namesB_var, namesB_none, killO_s, allLt_is, maskH_is, mergeH_is, setH_is, newL_is, refsT, refsH, refsV, refsL, Bool.or_self, true_or, Nat.reduceBEq, Ty.td29, rfc, ndc]
            kernel_rfl
          · have hin := inside_ (size := size) ht hd
            rcases isNm_true hn with hq1 | ⟨hq1, hq2⟩
            · simp only [awp_regX, awp_seq, seqQ_n, awpOps_nil, awpOps_one, awpOps_if, awpOp_is, putK_is, put_s, slot_is, pureOp, apureO, aev, cv, cvc, yieldA, guardA_ft, pickA_t, ↓reduceIte, List.getElem?_cons_zero, List.getElem?_cons_succ, List.getElem?_toArray, Option.bind_some, Nat.reduceEqDiff, hq1]
              refine drawS_wild ?_; simp (config := {maxSteps := 2000000}) only [isCallV, slot_is, pureOp, apureO, killT, killB, aev, cv, cvc, elO_s, loadA_p, yieldA, killV_c, killV_sl, killV_fn, killL_nil, killL_cons, Bool.false_eq_true, ↓reduceIte, List.getElem?_cons_zero, List.getElem?_cons_succ, List.length_cons, List.length_nil, List.map_cons, List.map_nil, List.cons_append, List.nil_append, List.append_nil, List.getElem?_toArray, Option.bind_some, List.take_succ_cons, List.drop_succ_cons, List.drop_zero, List.all_cons, List.all_nil, Bool.true_and, Bool.and_self, Bool.false_or, Bool.or_false, true_and, and_self, reduceCtorEq, Nat.reduceAdd, Nat.reduceLT, Nat.reduceLeDiff, Nat.reduceEqDiff, Nat.zero_add, List.mem_cons, List.not_mem_nil, or_false, false_or, List.range_succ, List.range_zero, decide_true, List.zipIdx_cons, List.zipIdx_nil, Nat.le_refl, List.drop_nil, List.take_nil, awpW_one, awpW_if, guardW_tt, runW_is, wRun_is, wOp_is, callXW_is, callXV_is, keepK_is, contW_is, nextW_s, confs_nil, confs_cons, conf_is, meet_nil, opV_move, opV_load, opV_call, tch_move, tch_load, rd_move, rd_load, rd_callv, namesV_c, namesV_sl, namesV_ptr, namesV_agg, namesV_fn, namesL_nil, namesL_cons, namesH_nil, namesH_cons, namesB_var, namesB_none, killO_s, allLt_is, maskH_is, mergeH_is, setH_is, newL_is, refsT, refsH, refsV, refsL, Bool.or_self, Ty.td29, Ty.td59, rfc, ndc]
              refine callx_meets (hin) (by simp (config := {maxSteps := 2000000}) only [aev, cv, cvc, toD_c, toD_agg, toD_sl, consO_some, toDL_nil, toDL_cons, Option.map_some, rfc, ndc] <;> rfl) (by simp (config := {maxSteps := 2000000}) only [aev, cv, cvc, flat_c, ownsV_c, ownsV_agg, ownsV_sl, ownsL_nil, ownsL_cons, List.append_nil, List.isEmpty_nil, Bool.or_self, rfc, ndc]) ?_; simp (config := {maxSteps := 2000000}) only [awp_ret, seqQ_n, isCallV, slot_is, retA_is, pureOp, apureO, astepO, killT, killB, aev, cv, cvc, elO_s, loadA_p, storeA, cellsA, cellOk, setAll, yieldA, pickA_t, toD_c, toD_tup, toD_agg, toD_sl, consO_some, toDL_nil, toDL_cons, killV_c, killV_sl, killV_fn, killL_nil, killL_cons, notExit, resA_nil, resA_tmp, resA_cell, oneA_2, Bool.false_eq_true, ↓reduceIte, List.getElem?_cons_zero, List.getElem?_cons_succ, List.length_cons, List.length_nil, List.map_cons, List.map_nil, List.cons_append, List.nil_append, List.append_nil, List.set_cons_zero, List.set_cons_succ, List.getElem?_toArray, Option.bind_some, Option.map_some, List.take_succ_cons, List.drop_succ_cons, List.drop_zero, List.all_cons, List.all_nil, Bool.and_true, Bool.true_and, Bool.and_self, Bool.or_true, Bool.false_or, Bool.or_false, true_and, and_true, and_self, reduceCtorEq, Nat.reduceAdd, Nat.reduceLT, Nat.reduceLeDiff, Nat.reduceEqDiff, Nat.zero_add, List.mem_cons, List.not_mem_nil, or_false, false_or, List.range_succ, List.range_zero, decide_true, List.zipIdx_cons, List.zipIdx_nil, Nat.le_refl, List.drop_nil, List.take_nil, List.any_cons, List.any_nil, awpW_nil, awpW_one, awpW_if, guardW_tt, runW_is, wRun_is, wOp_is, keepK_is, stepK_is, contW_is, nextW_n, nextW_s, confs_nil, confs_cons, conf_is, meet_nil, meet_cons, opV_move, opV_assign, opV_unOp, opV_pick, opV_store, opV_call, tch_move, tch_assign, tch_unOp, tch_pick, tch_callv, tch_store, rd_move, rd_assign, rd_unOp, rd_pick, rd_callv, rd_store, namesV_c, namesV_junk, namesV_sl, namesV_ptr, namesV_agg, namesV_fn, namesL_nil, namesL_cons, namesH_nil, namesH_cons, namesB_var, namesB_none, killO_s, allLt_is, maskH_is, mergeH_is, setH_is, newL_is, Bool.or_self, Nat.reduceBEq, Ty.td29, rfc, ndc]
              kernel_rfl
            · simp only [awp_regX, awp_seq, seqQ_n, awpOps_nil, awpOps_one, awpOps_if, awpOp_is, awpO_is, putK_is, put_s, slot_is, pureOp, apureO, aev, cv, cvc, binK, yieldA, guardA_ff, pickA_f, ↓reduceIte, List.getElem?_cons_zero, List.getElem?_cons_succ, List.getElem?_toArray, Option.bind_some, reduceCtorEq, Nat.reduceEqDiff, hq1, hq2]
              refine drawS_wild ?_; simp (config := {maxSteps := 2000000}) only [isCallV, slot_is, pureOp, apureO, killT, killB, aev, cv, cvc, elO_s, loadA_p, yieldA, killV_c, killV_sl, killV_fn, killL_nil, killL_cons, Bool.false_eq_true, ↓reduceIte, List.getElem?_cons_zero, List.getElem?_cons_succ, List.length_cons, List.length_nil, List.map_cons, List.map_nil, List.cons_append, List.nil_append, List.append_nil, List.getElem?_toArray, Option.bind_some, List.take_succ_cons, List.drop_succ_cons, List.drop_zero, List.all_cons, List.all_nil, Bool.true_and, Bool.and_self, Bool.false_or, Bool.or_false, true_and, and_self, reduceCtorEq, Nat.reduceAdd, Nat.reduceLT, Nat.reduceLeDiff, Nat.reduceEqDiff, Nat.zero_add, List.mem_cons, List.not_mem_nil, or_false, false_or, List.range_succ, List.range_zero, decide_true, List.zipIdx_cons, List.zipIdx_nil, Nat.le_refl, List.drop_nil, List.take_nil, awpW_one, awpW_if, guardW_tt, runW_is, wRun_is, wOp_is, callXW_is, callXV_is, keepK_is, contW_is, nextW_s, confs_nil, confs_cons, conf_is, meet_nil, opV_move, opV_load, opV_call, tch_move, tch_load, rd_move, rd_load, rd_callv, namesV_c, namesV_sl, namesV_ptr, namesV_agg, namesV_fn, namesL_nil, namesL_cons, namesH_nil, namesH_cons, namesB_var, namesB_none, killO_s, allLt_is, maskH_is, mergeH_is, setH_is, newL_is, refsT, refsH, refsV, refsL, Bool.or_self, Ty.td29, Ty.td59, rfc, ndc]
              refine callx_meets (hin) (by simp (config := {maxSteps := 2000000}) only [aev, cv, cvc, toD_c, toD_agg, toD_sl, consO_some, toDL_nil, toDL_cons, Option.map_some, rfc, ndc] <;> rfl) (by simp (config := {maxSteps := 2000000}) only [aev, cv, cvc, flat_c, ownsV_c, ownsV_agg, ownsV_sl, ownsL_nil, ownsL_cons, List.append_nil, List.isEmpty_nil, Bool.or_self, rfc, ndc]) ?_; simp (config := {maxSteps := 2000000}) only [awp_ret, seqQ_n, isCallV, slot_is, retA_is, pureOp, apureO, astepO, killT, killB, aev, cv, cvc, elO_s, loadA_p, storeA, cellsA, cellOk, setAll, yieldA, pickA_t, toD_c, toD_tup, toD_agg, toD_sl, consO_some, toDL_nil, toDL_cons, killV_c, killV_sl, killV_fn, killL_nil, killL_cons, notExit, resA_nil, resA_tmp, resA_cell, oneA_2, Bool.false_eq_true, ↓reduceIte, List.getElem?_cons_zero, List.getElem?_cons_succ, List.length_cons, List.length_nil, List.map_cons, List.map_nil, List.cons_append, List.nil_append, List.append_nil, List.set_cons_zero, List.set_cons_succ, List.getElem?_toArray, Option.bind_some, Option.map_some, List.take_succ_cons, List.drop_succ_cons, List.drop_zero, List.all_cons, List.all_nil, Bool.and_true, Bool.true_and, Bool.and_self, Bool.or_true, Bool.false_or, Bool.or_false, true_and, and_true, and_self, reduceCtorEq, Nat.reduceAdd, Nat.reduceLT, Nat.reduceLeDiff, Nat.reduceEqDiff, Nat.zero_add, List.mem_cons, List.not_mem_nil, or_false, false_or, List.range_succ, List.range_zero, decide_true, List.zipIdx_cons, List.zipIdx_nil, Nat.le_refl, List.drop_nil, List.take_nil, List.any_cons, List.any_nil, awpW_nil, awpW_one, awpW_if, guardW_tt, runW_is, wRun_is, wOp_is, keepK_is, stepK_is, contW_is, nextW_n, nextW_s, confs_nil, confs_cons, conf_is, meet_nil, meet_cons, opV_move, opV_assign, opV_unOp, opV_pick, opV_store, opV_call, tch_move, tch_assign, tch_unOp, tch_pick, tch_callv, tch_store, rd_move, rd_assign, rd_unOp, rd_pick, rd_callv, rd_store, namesV_c, namesV_junk, namesV_sl, namesV_ptr, namesV_agg, namesV_fn, namesL_nil, namesL_cons, namesH_nil, namesH_cons, namesB_var, namesB_none, killO_s, allLt_is, maskH_is, mergeH_is, setH_is, newL_is, Bool.or_self, Nat.reduceBEq, Ty.td29, rfc, ndc]
              kernel_rfl
      | succ k =>
        rw [hll] at hlE hlL
        have hb1 : List.take (k + 1) (L.map fun d => [ints d]) = L.map fun d => [ints d] := List.take_of_length_le (by simp; omega)
        have hb2 : List.take (k + 1) (E.map fun s => [S s]) = E.map fun s => [S s] := List.take_of_length_le (by simp; omega)
        simp only [awp_reg, awp_seq, awp_exit, seqQ_n, seqQ_e, loopQ_e, blkQ_e, awpOps_one, awpOp_is, isCallV, callW_is, callV_is, putK_is, put_s, slot_is, pureOp, apureO, aev, cv, cvc, Bool.false_eq_true, ↓reduceIte, List.map_cons, List.map_nil, List.append_nil, reduceCtorEq, Nat.reduceEqDiff, dV, eV, aH, hll]
        refine call_meets (hres) (by simp only [aev, cv, cvc, elemsA, toD_c, toD_own, consO_some, toDL_nil, toDL_cons, ↓reduceIte, List.getElem?_cons_zero, List.getElem?_cons_succ, Option.map_some, Bool.and_self, and_self, Nat.le_refl, List.length_map, hlE, hlL, hb1, hb2] <;> rfl) ?_; simp only [awp_skip, awp_reg, awp_seq, awp_cond, seqQ_n, awpOps_nil, awpOps_one, awpOp_is, isCallV, callW_is, callV_is, putK_is, put_s, upd_s, slot_is, pureOp, apureO, killT, aev, cv, cvc, elO_s, condA_f, flat_c, flat_tup, flatL_nil, flatL_cons, ownsV_c, ownsV_own, ownsL_nil, ownsL_cons, Bool.false_eq_true, ↓reduceIte, List.getElem?_cons_zero, List.getElem?_cons_succ, List.map_cons, List.map_nil, List.nil_append, List.append_nil, Bool.and_self, Bool.or_false, Bool.not_true, and_self, reduceCtorEq, Nat.reduceEqDiff, List.isEmpty_cons, or_false, hlE, hlL, hb1, hb2]
        refine call_meets (hdims) (by simp only [aev, cv, cvc, elemsA, toD_c, toD_sl, toD_own, consO_some, toDL_nil, toDL_cons, ↓reduceIte, List.getElem?_cons_zero, List.getElem?_cons_succ, Option.map_some, Bool.and_self, and_self, Nat.le_refl, List.length_map, hlE, hlL, hb1, hb2] <;> rfl) ?_; simp only [awp_skip, awp_reg, awp_seq, awp_cond, seqQ_n, awpOps_nil, awpOps_one, awpOp_is, isCallV, putK_is, updK_is, put_s, upd_n, upd_s, slot_is, slot.eq_1, pureOp, apureO, astepO, killT, killB, killH, aev, cv, cvc, binK, elO_s, lenA, lenK, storeA, cellsA, cellOk, setAll, fillA, placeT, placesA, condA_f, elemsA, dropL, flat_c, flat_tup, flat_sl, flatL_nil, flatL_cons, ownsV_c, ownsV_sl, ownsV_own, ownsL_nil, ownsL_cons, killV_c, killV_nils, killV_tup, killV_sl, killV_own, killV_ptr, killL_nil, killL_cons, Bool.false_eq_true, ↓reduceIte, List.getElem?_cons_zero, List.getElem?_cons_succ, List.length_cons, List.length_nil, List.map_cons, List.map_nil, List.cons_append, List.nil_append, List.append_nil, List.set_cons_zero, List.set_cons_succ, Option.map_some, Option.map_none, List.all_cons, List.all_nil, Bool.and_true, Bool.true_and, Bool.and_self, Bool.or_false, Value.oneCell', true_and, and_true, and_self, ne_eq, not_false_eq_true, reduceCtorEq, Nat.reduceAdd, Nat.reduceLeDiff, Nat.reduceEqDiff, Nat.zero_add, List.isEmpty_cons, List.mem_cons, List.not_mem_nil, or_false, Option.isSome_some, List.zipIdx_cons, List.zipIdx_nil, Nat.le_refl, Ty.td3, Ty.td22, Ty.td25, Ty.td59, List.length_map, hlE, hlL, hb1, hb2, bne_self_eq_false]
        by_cases hz : 0 < zs.length
        case' pos =>
          have hz1 : zs[0]? = some size := by
            rw [hsz, if_pos hz, List.getD_eq_getElem?_getD, List.getElem?_eq_getElem hz]
            rfl
          simp only [awp_reg, awp_seq, seqQ_n, awpOps_nil, awpOps_one, awpOp_is, isCallV, callW_is, callV_is, putK_is, updK_is, put_s, upd_n, slot_is, pureOp, apureO, astepO, killT, aev, cv, cvc, elO_s, loadA_d, storeA, cellsA, cellOk, setAll, condA_t, Bool.false_eq_true, ↓reduceIte, List.getElem?_cons_zero, List.getElem?_cons_succ, List.length_cons, List.length_nil, List.map_cons, List.map_nil, List.append_nil, List.set_cons_zero, List.set_cons_succ, Option.map_some, Bool.true_and, Value.oneCell', true_and, ne_eq, not_false_eq_true, reduceCtorEq, Nat.reduceAdd, Nat.reduceLeDiff, Nat.reduceEqDiff, Nat.zero_add, Int.reduceToNat, Int.le_refl, Ty.td3, Ty.td22, Ty.td59, show decide ((0 : Int) < (zs.length : Int)) = true from by simpa using hz, List.getElem?_map, hz1]
        case' neg =>
          rw [if_neg hz] at hsz
          subst hsz
          simp only [awp_skip, awp_reg, awp_seq, seqQ_n, awpOps_one, awpOp_is, isCallV, callW_is, callV_is, putK_is, put_s, slot_is, pureOp, apureO, aev, cv, cvc, condA_f, Bool.false_eq_true, ↓reduceIte, List.map_cons, List.map_nil, List.append_nil, reduceCtorEq, show decide ((0 : Int) < (zs.length : Int)) = false from by simpa using hz]
        all_goals
          refine call_meets (hf) (by simp only [aev, cv, cvc, toD_c, consO_some, toDL_nil, toDL_cons] <;> rfl) ?_; simp only [awp_reg, awp_seq, seqQ_n, awpOps_nil, awpOps_one, awpOp_is, isCallV, callW_is, callV_is, putK_is, updK_is, put_s, upd_n, upd_s, slot_is, pureOp, apureO, astepO, killT, aev, cv, cvc, elO_s, loadA_p, storeA, cellsA, cellOk, setAll, flat_c, flat_tup, flat_agg, flat_sl, flat_fn, flatL_nil, flatL_cons, ownsV_c, ownsL_nil, ownsL_cons, Bool.false_eq_true, ↓reduceIte, List.getElem?_cons_zero, List.getElem?_cons_succ, List.length_cons, List.length_nil, List.map_cons, List.map_nil, List.cons_append, List.nil_append, List.append_nil, List.set_cons_zero, List.set_cons_succ, List.take_succ_cons, List.drop_zero, List.all_cons, List.all_nil, Bool.and_true, Bool.true_and, Bool.and_false, Bool.and_self, Bool.or_true, Value.oneCell', true_and, and_true, and_self, ne_eq, not_false_eq_true, reduceCtorEq, Nat.reduceAdd, Nat.reduceEqDiff, Nat.zero_add, List.isEmpty_nil, Nat.le_refl, List.take_nil, Ty.td59, Ty.td61, Ty.td63]
          refine call_meets (hga) (by simp only [aev, cv, cvc, toD_c, toD_agg, toD_sl, toD_fn, consO_some, toDL_nil, toDL_cons, Option.map_some] <;> rfl) ?_; simp only [awpOps_one, awpOp_is, isCallV, callW_is, callV_is, upd_s, slot_is, pureOp, killT, aev, cv, cvc, flat_sl, ownsV_c, ownsV_agg, ownsV_sl, ownsV_fn, ownsL_nil, ownsL_cons, Bool.false_eq_true, ↓reduceIte, List.map_cons, List.map_nil, List.append_nil, Bool.or_true, Nat.reduceEqDiff, List.isEmpty_nil]
          refine call_meets (hofm) (by simp only [aev, cv, cvc, toD_c, toD_sl, consO_some, toDL_nil, toDL_cons] <;> rfl) ?_; simp only [awp_reg, awp_seq, seqQ_n, awpOps_nil, awpOps_one, awpOps_if, awpOp_is, isCallV, putK_is, updK_is, put_s, upd_n, upd_s, slot_is, pureOp, apureO, astepO, killT, aev, cv, cvc, binK, elO_s, storeA, cellsA, cellOk, setAll, yieldA, flat_c, flat_tup, flat_agg, flat_sl, flatL_nil, flatL_cons, ownsV_c, ownsV_sl, ownsL_nil, ownsL_cons, Bool.false_eq_true, ↓reduceIte, List.getElem?_cons_zero, List.getElem?_cons_succ, List.length_cons, List.length_nil, List.append_nil, List.set_cons_zero, List.set_cons_succ, List.getElem?_toArray, Option.bind_some, Bool.and_true, Bool.true_and, Bool.and_false, Bool.and_self, Bool.or_true, true_and, and_true, and_self, reduceCtorEq, Nat.reduceAdd, Nat.reduceEqDiff, Nat.zero_add, List.isEmpty_nil, Nat.le_refl, Ty.td29]
        all_goals
          rcases hv with ⟨hn, rfl⟩ | ⟨hn, t, d, ht, hd, rfl⟩
          · have hq1 : is_index e = false ∧ is_update e = false := by simpa [isNm] using hn
            simp only [awp_regX, awp_seq, seqQ_n, awpOps_nil, awpOps_one, awpOps_if, awpOp_is, awpO_is, putK_is, put_s, slot_is, pureOp, apureO, aev, cv, cvc, binK, yieldA, guardA_ff, pickA_f, ↓reduceIte, List.getElem?_cons_zero, List.getElem?_cons_succ, List.getElem?_toArray, Option.bind_some, reduceCtorEq, Nat.reduceEqDiff, hq1.1, hq1.2]
            refine drawS_wild ?_; simp (config := {maxSteps := 2000000}) only [awp_ret, seqQ_n, isCallV, put_s, slot_is, retA_is, pureOp, apureO, astepO, killT, killB, aev, cv, cvc, elO_s, loadA_p, storeA, cellsA, cellOk, setAll, yieldA, pickA_f, toD_c, toD_tup, toD_agg, toD_sl, consO_some, toDL_nil, toDL_cons, killV_c, killV_sl, killV_fn, killL_nil, killL_cons, notExit, resA_nil, resA_tmp, resA_cell, oneA_2, Bool.false_eq_true, ↓reduceIte, List.getElem?_cons_zero, List.getElem?_cons_succ, List.length_cons, List.length_nil, List.map_cons, List.map_nil, List.cons_append, List.nil_append, List.append_nil, List.set_cons_zero, List.set_cons_succ, List.getElem?_toArray, Option.bind_some, Option.map_some, List.take_succ_cons, List.drop_succ_cons, List.drop_zero, List.all_cons, List.all_nil, Bool.and_true, Bool.true_and, Bool.and_self, Bool.or_true, Bool.true_or, Bool.false_or, Bool.or_false, Value.oneCell', true_and, and_true, and_self, reduceCtorEq, Nat.reduceAdd, Nat.reduceLT, Nat.reduceLeDiff, Nat.reduceEqDiff, Nat.zero_add, List.mem_cons, List.not_mem_nil, or_false, false_or, List.range_succ, List.range_zero, decide_true, List.zipIdx_cons, List.zipIdx_nil, Nat.le_refl, List.drop_nil, List.take_nil, List.any_cons, List.any_nil, true_or, awpW_nil, awpW_one, awpW_if, guardW_tf, skipW_is, wRun_is, wOp_is, keepK_is, stepK_is, contW_is, nextW_n, nextW_s, confs_nil, confs_cons, conf_is, meet_nil, meet_cons, opV_move, opV_assign, opV_load, opV_pick, opV_store, tch_move, tch_assign, tch_load, tch_pick, tch_store, rd_move, rd_assign, rd_load, rd_pick, rd_store, namesV_c, namesV_junk, namesV_sl, namesV_ptr, namesV_agg, namesV_tup, namesL_nil, namesL_cons, namesH_nil, namesH_cons, namesB_var, namesB_none, killO_s, killO_n, allLt_is, maskH_is, mergeH_is, setH_is, newL_is, refsT, refsH, refsV, refsL, Bool.or_self, true_or, Nat.reduceBEq, Ty.td29, rfc, ndc]
            kernel_rfl
          · have hin := inside_ (size := size) ht hd
            rcases isNm_true hn with hq1 | ⟨hq1, hq2⟩
            · simp only [awp_regX, awp_seq, seqQ_n, awpOps_nil, awpOps_one, awpOps_if, awpOp_is, putK_is, put_s, slot_is, pureOp, apureO, aev, cv, cvc, yieldA, guardA_ft, pickA_t, ↓reduceIte, List.getElem?_cons_zero, List.getElem?_cons_succ, List.getElem?_toArray, Option.bind_some, Nat.reduceEqDiff, hq1]
              refine drawS_wild ?_; simp (config := {maxSteps := 2000000}) only [isCallV, slot_is, pureOp, apureO, killT, killB, aev, cv, cvc, elO_s, loadA_p, yieldA, killV_c, killV_sl, killV_fn, killL_nil, killL_cons, Bool.false_eq_true, ↓reduceIte, List.getElem?_cons_zero, List.getElem?_cons_succ, List.length_cons, List.length_nil, List.map_cons, List.map_nil, List.cons_append, List.nil_append, List.append_nil, List.getElem?_toArray, Option.bind_some, List.take_succ_cons, List.drop_succ_cons, List.drop_zero, List.all_cons, List.all_nil, Bool.true_and, Bool.and_self, Bool.false_or, Bool.or_false, true_and, and_self, reduceCtorEq, Nat.reduceAdd, Nat.reduceLT, Nat.reduceLeDiff, Nat.reduceEqDiff, Nat.zero_add, List.mem_cons, List.not_mem_nil, or_false, false_or, List.range_succ, List.range_zero, decide_true, List.zipIdx_cons, List.zipIdx_nil, Nat.le_refl, List.drop_nil, List.take_nil, awpW_one, awpW_if, guardW_tt, runW_is, wRun_is, wOp_is, callXW_is, callXV_is, keepK_is, contW_is, nextW_s, confs_nil, confs_cons, conf_is, meet_nil, opV_move, opV_load, opV_call, tch_move, tch_load, rd_move, rd_load, rd_callv, namesV_c, namesV_sl, namesV_ptr, namesV_agg, namesV_fn, namesL_nil, namesL_cons, namesH_nil, namesH_cons, namesB_var, namesB_none, killO_s, killO_n, allLt_is, maskH_is, mergeH_is, setH_is, newL_is, refsT, refsH, refsV, refsL, Bool.or_self, Ty.td29, Ty.td59, rfc, ndc]
              refine callx_meets (hin) (by simp (config := {maxSteps := 2000000}) only [aev, cv, cvc, toD_c, toD_agg, toD_sl, consO_some, toDL_nil, toDL_cons, Option.map_some, rfc, ndc] <;> rfl) (by simp (config := {maxSteps := 2000000}) only [aev, cv, cvc, flat_c, ownsV_c, ownsV_agg, ownsV_sl, ownsL_nil, ownsL_cons, List.append_nil, List.isEmpty_nil, Bool.or_self, rfc, ndc]) ?_; simp (config := {maxSteps := 2000000}) only [awp_ret, seqQ_n, isCallV, slot_is, retA_is, pureOp, apureO, astepO, killT, killB, aev, cv, cvc, elO_s, loadA_p, storeA, cellsA, cellOk, setAll, yieldA, pickA_t, toD_c, toD_tup, toD_agg, toD_sl, consO_some, toDL_nil, toDL_cons, killV_c, killV_sl, killV_fn, killL_nil, killL_cons, notExit, resA_nil, resA_tmp, resA_cell, oneA_2, Bool.false_eq_true, ↓reduceIte, List.getElem?_cons_zero, List.getElem?_cons_succ, List.length_cons, List.length_nil, List.map_cons, List.map_nil, List.cons_append, List.nil_append, List.append_nil, List.set_cons_zero, List.set_cons_succ, List.getElem?_toArray, Option.bind_some, Option.map_some, List.take_succ_cons, List.drop_succ_cons, List.drop_zero, List.all_cons, List.all_nil, Bool.and_true, Bool.true_and, Bool.and_self, Bool.or_true, Bool.false_or, Bool.or_false, true_and, and_true, and_self, reduceCtorEq, Nat.reduceAdd, Nat.reduceLT, Nat.reduceLeDiff, Nat.reduceEqDiff, Nat.zero_add, List.mem_cons, List.not_mem_nil, or_false, false_or, List.range_succ, List.range_zero, decide_true, List.zipIdx_cons, List.zipIdx_nil, Nat.le_refl, List.drop_nil, List.take_nil, List.any_cons, List.any_nil, awpW_nil, awpW_one, awpW_if, guardW_tt, runW_is, wRun_is, wOp_is, keepK_is, stepK_is, contW_is, nextW_n, nextW_s, confs_nil, confs_cons, conf_is, meet_nil, meet_cons, opV_move, opV_assign, opV_unOp, opV_pick, opV_store, opV_call, tch_move, tch_assign, tch_unOp, tch_pick, tch_callv, tch_store, rd_move, rd_assign, rd_unOp, rd_pick, rd_callv, rd_store, namesV_c, namesV_junk, namesV_sl, namesV_ptr, namesV_agg, namesV_fn, namesL_nil, namesL_cons, namesH_nil, namesH_cons, namesB_var, namesB_none, killO_s, killO_n, allLt_is, maskH_is, mergeH_is, setH_is, newL_is, Bool.or_self, Nat.reduceBEq, Ty.td29, rfc, ndc]
              kernel_rfl
            · simp only [awp_regX, awp_seq, seqQ_n, awpOps_nil, awpOps_one, awpOps_if, awpOp_is, awpO_is, putK_is, put_s, slot_is, pureOp, apureO, aev, cv, cvc, binK, yieldA, guardA_ff, pickA_f, ↓reduceIte, List.getElem?_cons_zero, List.getElem?_cons_succ, List.getElem?_toArray, Option.bind_some, reduceCtorEq, Nat.reduceEqDiff, hq1, hq2]
              refine drawS_wild ?_; simp (config := {maxSteps := 2000000}) only [isCallV, slot_is, pureOp, apureO, killT, killB, aev, cv, cvc, elO_s, loadA_p, yieldA, killV_c, killV_sl, killV_fn, killL_nil, killL_cons, Bool.false_eq_true, ↓reduceIte, List.getElem?_cons_zero, List.getElem?_cons_succ, List.length_cons, List.length_nil, List.map_cons, List.map_nil, List.cons_append, List.nil_append, List.append_nil, List.getElem?_toArray, Option.bind_some, List.take_succ_cons, List.drop_succ_cons, List.drop_zero, List.all_cons, List.all_nil, Bool.true_and, Bool.and_self, Bool.false_or, Bool.or_false, true_and, and_self, reduceCtorEq, Nat.reduceAdd, Nat.reduceLT, Nat.reduceLeDiff, Nat.reduceEqDiff, Nat.zero_add, List.mem_cons, List.not_mem_nil, or_false, false_or, List.range_succ, List.range_zero, decide_true, List.zipIdx_cons, List.zipIdx_nil, Nat.le_refl, List.drop_nil, List.take_nil, awpW_one, awpW_if, guardW_tt, runW_is, wRun_is, wOp_is, callXW_is, callXV_is, keepK_is, contW_is, nextW_s, confs_nil, confs_cons, conf_is, meet_nil, opV_move, opV_load, opV_call, tch_move, tch_load, rd_move, rd_load, rd_callv, namesV_c, namesV_sl, namesV_ptr, namesV_agg, namesV_fn, namesL_nil, namesL_cons, namesH_nil, namesH_cons, namesB_var, namesB_none, killO_s, killO_n, allLt_is, maskH_is, mergeH_is, setH_is, newL_is, refsT, refsH, refsV, refsL, Bool.or_self, Ty.td29, Ty.td59, rfc, ndc]
              refine callx_meets (hin) (by simp (config := {maxSteps := 2000000}) only [aev, cv, cvc, toD_c, toD_agg, toD_sl, consO_some, toDL_nil, toDL_cons, Option.map_some, rfc, ndc] <;> rfl) (by simp (config := {maxSteps := 2000000}) only [aev, cv, cvc, flat_c, ownsV_c, ownsV_agg, ownsV_sl, ownsL_nil, ownsL_cons, List.append_nil, List.isEmpty_nil, Bool.or_self, rfc, ndc]) ?_; simp (config := {maxSteps := 2000000}) only [awp_ret, seqQ_n, isCallV, slot_is, retA_is, pureOp, apureO, astepO, killT, killB, aev, cv, cvc, elO_s, loadA_p, storeA, cellsA, cellOk, setAll, yieldA, pickA_t, toD_c, toD_tup, toD_agg, toD_sl, consO_some, toDL_nil, toDL_cons, killV_c, killV_sl, killV_fn, killL_nil, killL_cons, notExit, resA_nil, resA_tmp, resA_cell, oneA_2, Bool.false_eq_true, ↓reduceIte, List.getElem?_cons_zero, List.getElem?_cons_succ, List.length_cons, List.length_nil, List.map_cons, List.map_nil, List.cons_append, List.nil_append, List.append_nil, List.set_cons_zero, List.set_cons_succ, List.getElem?_toArray, Option.bind_some, Option.map_some, List.take_succ_cons, List.drop_succ_cons, List.drop_zero, List.all_cons, List.all_nil, Bool.and_true, Bool.true_and, Bool.and_self, Bool.or_true, Bool.false_or, Bool.or_false, true_and, and_true, and_self, reduceCtorEq, Nat.reduceAdd, Nat.reduceLT, Nat.reduceLeDiff, Nat.reduceEqDiff, Nat.zero_add, List.mem_cons, List.not_mem_nil, or_false, false_or, List.range_succ, List.range_zero, decide_true, List.zipIdx_cons, List.zipIdx_nil, Nat.le_refl, List.drop_nil, List.take_nil, List.any_cons, List.any_nil, awpW_nil, awpW_one, awpW_if, guardW_tt, runW_is, wRun_is, wOp_is, keepK_is, stepK_is, contW_is, nextW_n, nextW_s, confs_nil, confs_cons, conf_is, meet_nil, meet_cons, opV_move, opV_assign, opV_unOp, opV_pick, opV_store, opV_call, tch_move, tch_assign, tch_unOp, tch_pick, tch_callv, tch_store, rd_move, rd_assign, rd_unOp, rd_pick, rd_callv, rd_store, namesV_c, namesV_junk, namesV_sl, namesV_ptr, namesV_agg, namesV_fn, namesL_nil, namesL_cons, namesH_nil, namesH_cons, namesB_var, namesB_none, killO_s, killO_n, allLt_is, maskH_is, mergeH_is, setH_is, newL_is, Bool.or_self, Nat.reduceBEq, Ty.td29, rfc, ndc]
              kernel_rfl
end Go.Proofs.Ytbmmemglkjeogaa.S9
