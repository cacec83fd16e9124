/- Sizes of dimensions: what the program's function makes of any list. -/
import Derived.Test.YtbmmemglkjeogaaEng
import Derived.Test.YtbmmemglkjeogaaTy
import Derived.Test.YtbmmemglkjeogaaBase
import Derived.Laws.EntriesVeiled
namespace Go.Proofs.Ytbmmemglkjeogaa.A1
open Go Go.Proofs.Ytbmmemglkjeogaa.Eng Go.Proofs.Ytbmmemglkjeogaa Go.RowKit
set_option linter.unusedSimpArgs false
set_option linter.unusedVariables false
set_option linter.unusedSectionVars false

abbrev I (n : Int) : AV := .c (.int .i64 n)
abbrev B (b : Bool) : AV := .c (.bool b)
abbrev enc (z : Int) : List AV := [I z]
abbrev ints (zs : List Int) : AV := .sl false 1 (zs.map enc)

def badDim (d : Int) : Bool := decide (d < 0) || decide (4096 < d)

theorem wrap_in {x : Int} (h1 : -9223372036854775808 ≤ x) (h2 : x ≤ 9223372036854775807) : IntKind.i64.wrap x = x := by
  rw [IntKind.wrap_i64]; omega

theorem size1 (x : Int) : Meets Try.prog 91 [I x] (B (badDim x)) := by
  refine meets_of (X := false) Ty.mixed Try.func91 (by kernel_rfl) rfl (by kernel_rfl) (by simp) ?_; rw [Try.ntmps91, Try.results91]
  by_cases h : x < 0
  · simp only [awp_reg, awp_seq, awp_ret, seqQ_n, awpOps_nil, awpOps_one, awpOps_if, awpOp_is, putK_is, put_s, slot_is, retA_is, pureOp, apureO, aev, cv, cvc, binK, yieldA, guardA_ft, pickA_t, toD_c, notExit, resA_nil, resA_tmp, oneA_1, argT, ↓reduceIte, List.getElem?_cons_zero, List.getElem?_cons_succ, List.getElem?_toArray, Option.bind_some, Bool.true_and, true_and, reduceCtorEq, Nat.reduceEqDiff, decide_true, h]
    simp [badDim, h]
  · simp only [awp_reg, awp_seq, awp_ret, seqQ_n, awpOps_nil, awpOps_one, awpOps_if, awpOp_is, awpO_is, putK_is, put_s, slot_is, retA_is, pureOp, apureO, aev, cv, cvc, binK, yieldA, guardA_ff, pickA_f, toD_c, notExit, resA_nil, resA_tmp, oneA_1, argT, ↓reduceIte, List.getElem?_cons_zero, List.getElem?_cons_succ, List.getElem?_toArray, Option.bind_some, Bool.true_and, true_and, reduceCtorEq, Nat.reduceEqDiff, decide_false, h]
    simp [badDim, h]

/-- The first place, if there is one. -/
def idx (p : Int → Bool) : List Int → Nat → Int
  | [], _ => -1
  | z :: zs, k => if p z then k else idx p zs (k + 1)

theorem idx_any (p : Int → Bool) : ∀ (zs : List Int) (k : Nat), decide (0 ≤ idx p zs k) = zs.any p
  | [], _ => rfl
  | z :: zs, k => by
    unfold idx
    cases h : p z
    · simp [h, idx_any p zs (k + 1)]
    · simp [h]

theorem indexFunc (g : FuncId) (cap : List AV) (p : Int → Bool) (zs : List Int) (hn : zs.length ≤ 1000000) (hc : ∀ h, toDL h cap = some cap) (hc2 : ownsL cap = []) (hg : ∀ z ∈ zs, Meets Try.prog g (I z :: cap) (B (p z))) :
    Meets Try.prog 97 [ints zs, .fn g cap] (I (idx p zs 0)) := by
  refine meets_of (X := false) Ty.mixed Try.func97 (by kernel_rfl) rfl (by kernel_rfl) (by simp) ?_; rw [Try.ntmps97, Try.results97]
  simp only [awp_reg, awp_seq, awp_block, awp_loop, seqQ_n, awpOps_nil, awpOps_one, awpOp_is, putK_is, put_s, slot_is, pureOp, apureO, aev, cv, cvc, elO_s, lenA, lenK, argT, ↓reduceIte, Bool.true_and, true_and, reduceCtorEq, Nat.zero_add, Option.isSome_some, Ty.td22, List.length_map]
  refine loop_k (fun k : Nat => k ≤ zs.length ∧ idx p zs 0 = idx p (zs.drop k) k) (fun k => ⟨19, [(8, I k), (7, I zs.length), (0, ints zs), (1, .fn g cap)], []⟩) (fun k => zs.length - k) 0 ⟨Nat.zero_le _, rfl⟩ (by simp only [slot_is, aev, cv, cvc, Weak, ↓reduceIte, Bool.and_true, Bool.and_self, and_true, and_self, reduceCtorEq, Nat.reduceEqDiff]; simp) rfl rfl ?_
  rintro k ⟨hk, hi⟩ K hK
  simp only [awp_reg, awp_seq, awp_cond, seqQ_n, awpOps_nil, awpOps_one, awpOp_is, putK_is, put_s, slot_is, pureOp, apureO, aev, cv, cvc, binK, ↓reduceIte, Bool.true_and, true_and, Nat.reduceEqDiff]
  refine condA_dec (fun hlt => ?_) (fun hge => ?_)
  · have hlt' : k < zs.length := by omega
    have hx : zs[k]? = some zs[k] := List.getElem?_eq_getElem hlt'
    rw [List.drop_eq_getElem_cons hlt', idx] at hi
    have hm := hg zs[k] (List.getElem_mem hlt')
    generalize zs[k] = x at *
    simp only [awp_skip, awp_reg, awp_seq, awp_block, seqQ_n, awpOps_nil, awpOps_one, awpOp_is, isCallV, callW_is, callV_is, putK_is, put_s, slot_is, pureOp, apureO, aev, cv, cvc, elO_s, loadA_d, Int.natCast_nonneg, Bool.false_eq_true, ↓reduceIte, List.getElem?_cons_zero, List.map_cons, List.map_nil, List.cons_append, List.nil_append, Option.map_some, Bool.true_and, true_and, reduceCtorEq, Nat.reduceEqDiff, Int.toNat_natCast, Ty.td3, Ty.td22, List.getElem?_map, hx, hc, hc2]
    refine call_meets hm (by simp only [aev, cv, cvc, toD_c, consO_some, toDL_cons, hc]) ?_
    simp only [awp_cond, seqQ_n, awpOps_nil, upd_s, slot_is, killT, aev, cv, cvc, flat_c, ownsV_c, ownsL_cons, ↓reduceIte, List.append_nil, Bool.or_true, List.isEmpty_nil, hc, hc2]
    cases hp : p x
    · rw [hp] at hi
      simp (disch := omega) only [awp_skip, awp_reg, seqQ_n, loopQ_n, blkQ_n, awpOps_nil, awpOps_one, awpOp_is, putK_is, put_s, slot_is, pureOp, apureO, aev, cv, cvc, binK, condA_f, ↓reduceIte, Bool.true_and, true_and, Nat.reduceEqDiff, wrap_in]
      refine hK (k + 1) _ ⟨hlt', by simpa using hi⟩ (by omega) ?_ rfl rfl
      simp only [slot_is, aev, cv, cvc, Weak, ↓reduceIte, Bool.and_true, Bool.and_self, and_true, and_self, reduceCtorEq, Nat.reduceEqDiff]
      simp
    · rw [hp] at hi
      simp only [awp_reg, awp_seq, awp_ret, seqQ_n, seqQ_r, loopQ_r, blkQ_r, awpOps_nil, awpOps_one, awpOp_is, putK_is, put_s, slot_is, retA_is, pureOp, apureO, aev, cv, cvc, condA_t, toD_c, notExit, resA_nil, resA_tmp, oneA_1, ↓reduceIte, Bool.true_and, true_and, Nat.reduceEqDiff]
      simp [hi]
  · have hk' : k = zs.length := by omega
    simp only [awp_reg, awp_seq, awp_exit, awp_ret, seqQ_n, seqQ_e, loopQ_e, blkQ_e, awpOps_nil, awpOps_one, awpOp_is, putK_is, put_s, slot_is, retA_is, pureOp, apureO, aev, cv, cvc, toD_c, notExit, resA_nil, resA_tmp, oneA_1, ↓reduceIte, Bool.true_and, true_and]
    rw [hi, hk']
    simp [idx]

theorem containsFunc (g : FuncId) (cap : List AV) (p : Int → Bool) (zs : List Int) (hn : zs.length ≤ 1000000) (hc : ∀ h, toDL h cap = some cap) (hc2 : ownsL cap = []) (hg : ∀ z ∈ zs, Meets Try.prog g (I z :: cap) (B (p z))) :
    Meets Try.prog 88 [ints zs, .fn g cap] (B (zs.any p)) := by
  refine meets_of (X := false) Ty.mixed Try.func88 (by kernel_rfl) rfl (by kernel_rfl) (by simp) ?_; rw [Try.ntmps88, Try.results88]
  simp only [awp_reg, awp_seq, seqQ_n, awpOps_nil, awpOps_one, awpOp_is, isCallV, callW_is, callV_is, putK_is, put_s, slot_is, pureOp, apureO, aev, cv, cvc, argT, Bool.false_eq_true, ↓reduceIte, List.map_cons, List.map_nil, List.append_nil, reduceCtorEq, Nat.reduceEqDiff, Nat.zero_add, hc, hc2]
  refine call_meets (indexFunc g cap p zs hn hc hc2 hg) (by simp only [aev, cv, cvc, toD_sl, toD_fn, consO_some, toDL_nil, toDL_cons, Option.map_some, hc, hc2] <;> rfl) ?_; simp only [awp_ret, seqQ_n, awpOps_nil, awpOps_one, awpOp_is, putK_is, put_s, upd_s, slot_is, retA_is, pureOp, apureO, killT, aev, cv, cvc, binK, flat_c, ownsV_sl, ownsV_fn, ownsL_nil, ownsL_cons, toD_c, notExit, resA_nil, resA_tmp, oneA_1, ↓reduceIte, List.append_nil, Bool.and_self, Bool.or_true, and_self, List.isEmpty_nil, hc, hc2, idx_any]

theorem index (v : Int) (zs : List Int) (hn : zs.length ≤ 1000000) : Meets Try.prog 98 [ints zs, I v] (I (idx (fun x => v == x) zs 0)) := by
  refine meets_of (X := false) Ty.mixed Try.func98 (by kernel_rfl) rfl (by kernel_rfl) (by simp) ?_; rw [Try.ntmps98, Try.results98]
  simp only [awp_reg, awp_seq, awp_block, awp_loop, seqQ_n, awpOps_nil, awpOps_one, awpOp_is, putK_is, put_s, slot_is, pureOp, apureO, aev, cv, cvc, elO_s, lenA, lenK, argT, ↓reduceIte, Bool.true_and, true_and, reduceCtorEq, Nat.zero_add, Option.isSome_some, Ty.td22, List.length_map]
  refine loop_k (fun k : Nat => k ≤ zs.length ∧ idx (fun x => v == x) zs 0 = idx (fun x => v == x) (zs.drop k) k) (fun k => ⟨19, [(8, I k), (7, I zs.length), (0, ints zs), (1, I v)], []⟩) (fun k => zs.length - k) 0 ⟨Nat.zero_le _, rfl⟩ (by simp only [slot_is, aev, cv, cvc, Weak, ↓reduceIte, Bool.and_true, Bool.and_self, and_true, and_self, reduceCtorEq, Nat.reduceEqDiff]; simp) rfl rfl ?_
  rintro k ⟨hk, hi⟩ K hK
  simp only [awp_reg, awp_seq, awp_cond, seqQ_n, awpOps_nil, awpOps_one, awpOp_is, putK_is, put_s, slot_is, pureOp, apureO, aev, cv, cvc, binK, ↓reduceIte, Bool.true_and, true_and, Nat.reduceEqDiff]
  refine condA_dec (fun hlt => ?_) (fun hge => ?_)
  · have hlt' : k < zs.length := by omega
    have hx : zs[k]? = some zs[k] := List.getElem?_eq_getElem hlt'
    rw [List.drop_eq_getElem_cons hlt', idx] at hi
    generalize zs[k] = x at *
    cases hp : v == x
    · rw [hp] at hi
      simp (disch := omega) only [awp_skip, awp_reg, awp_seq, awp_cond, awp_block, seqQ_n, loopQ_n, blkQ_n, awpOps_nil, awpOps_one, awpOp_is, putK_is, put_s, slot_is, pureOp, apureO, aev, cv, cvc, binK, elO_s, loadA_d, condA_f, Int.natCast_nonneg, Bool.false_eq_true, ↓reduceIte, List.getElem?_cons_zero, Option.map_some, Bool.true_and, true_and, reduceCtorEq, Nat.reduceEqDiff, Int.toNat_natCast, Ty.td3, Ty.td22, List.getElem?_map, hx, wrap_in, hp]
      refine hK (k + 1) _ ⟨hlt', by simpa using hi⟩ (by omega) ?_ rfl rfl
      simp only [slot_is, aev, cv, cvc, Weak, ↓reduceIte, Bool.and_true, Bool.and_self, and_true, and_self, reduceCtorEq, Nat.reduceEqDiff]
      simp
    · rw [hp] at hi
      simp only [awp_skip, awp_reg, awp_seq, awp_cond, awp_block, awp_ret, seqQ_n, seqQ_r, loopQ_r, blkQ_r, awpOps_nil, awpOps_one, awpOp_is, putK_is, put_s, slot_is, retA_is, pureOp, apureO, aev, cv, cvc, binK, elO_s, loadA_d, condA_t, toD_c, notExit, resA_nil, resA_tmp, oneA_1, Int.natCast_nonneg, Bool.false_eq_true, ↓reduceIte, List.getElem?_cons_zero, Option.map_some, Bool.true_and, true_and, reduceCtorEq, Nat.reduceEqDiff, Int.toNat_natCast, Ty.td3, Ty.td22, List.getElem?_map, hx, hp]
      simp [hi]
  · have hk' : k = zs.length := by omega
    simp only [awp_reg, awp_seq, awp_exit, awp_ret, seqQ_n, seqQ_e, loopQ_e, blkQ_e, awpOps_nil, awpOps_one, awpOp_is, putK_is, put_s, slot_is, retA_is, pureOp, apureO, aev, cv, cvc, toD_c, notExit, resA_nil, resA_tmp, oneA_1, ↓reduceIte, Bool.true_and, true_and]
    rw [hi, hk']
    simp [idx]

theorem contains (v : Int) (zs : List Int) (hn : zs.length ≤ 1000000) : Meets Try.prog 92 [ints zs, I v] (B (zs.any fun x => v == x)) := by
  refine meets_of (X := false) Ty.mixed Try.func92 (by kernel_rfl) rfl (by kernel_rfl) (by simp) ?_; rw [Try.ntmps92, Try.results92]
  simp only [awp_reg, awp_seq, seqQ_n, awpOps_nil, awpOps_one, awpOp_is, isCallV, callW_is, callV_is, putK_is, put_s, slot_is, pureOp, apureO, aev, cv, cvc, argT, Bool.false_eq_true, ↓reduceIte, List.map_cons, List.map_nil, List.append_nil, reduceCtorEq, Nat.reduceEqDiff, Nat.zero_add]
  refine call_meets (index v zs hn) (by simp only [aev, cv, cvc, toD_c, toD_sl, consO_some, toDL_nil, toDL_cons] <;> rfl) ?_; simp only [awp_ret, seqQ_n, awpOps_nil, awpOps_one, awpOp_is, putK_is, put_s, upd_s, slot_is, retA_is, pureOp, apureO, killT, aev, cv, cvc, binK, flat_c, ownsV_c, ownsV_sl, ownsL_nil, ownsL_cons, toD_c, notExit, resA_nil, resA_tmp, oneA_1, ↓reduceIte, List.append_nil, Bool.and_self, Bool.or_true, and_self, List.isEmpty_nil, idx_any]

/-- The product of dimensions, as far as it is small. -/
def prodE : List Int → Int → Int × Int
  | [], n => (n, 0)
  | d :: ds, n => if 4096 < IntKind.i64.wrap (n * d) then (0, 3) else prodE ds (IntKind.i64.wrap (n * d))

def sizeE (zs : List Int) : Int × Int :=
  if 6 < zs.length then (0, 13) else if zs.any badDim then (0, 2) else if zs.any (fun x => 0 == x) then (0, 0) else prodE zs 1

abbrev two (p : Int × Int) : AV := .tup [I p.1, I p.2]

theorem size (zs : List Int) (hn : zs.length ≤ 1000000) : Meets Try.prog 54 [ints zs] (two (sizeE zs)) := by
  refine meets_of (X := false) Ty.mixed Try.func54 (by kernel_rfl) rfl (by kernel_rfl) (by simp) ?_; rw [Try.ntmps54, Try.results54]
  unfold sizeE
  simp only [awp_reg, awp_seq, awp_cond, seqQ_n, awpOps_nil, awpOps_one, awpOp_is, putK_is, put_s, slot_is, pureOp, apureO, aev, cv, cvc, binK, elO_s, lenA, lenK, argT, ↓reduceIte, Bool.true_and, true_and, reduceCtorEq, Option.isSome_some, Ty.td22, List.length_map]
  refine condA_dec (fun h => ?_) (fun h => ?_)
  · rw [if_pos (by omega)]
    simp only [awp_reg, awp_seq, awp_ret, seqQ_n, seqQ_r, awpOps_nil, awpOps_one, awpOp_is, putK_is, put_s, slot_is, retA_is, pureOp, apureO, aev, cv, cvc, toD_c, toD_tup, consO_some, toDL_nil, toDL_cons, notExit, resA_nil, resA_tmp, oneA_2, ↓reduceIte, Option.map_some, Bool.and_self, and_self, Nat.reduceEqDiff]
  rw [if_neg (by omega)]
  simp only [awp_skip, awp_reg, awp_seq, seqQ_n, awpOps_one, awpOp_is, isCallV, callW_is, callV_is, putK_is, put_s, slot_is, pureOp, apureO, aev, cv, cvc, Bool.false_eq_true, ↓reduceIte, List.map_cons, List.map_nil, List.append_nil, reduceCtorEq]
  refine call_meets (containsFunc _ [] badDim zs hn (fun _ => rfl) rfl (fun z _ => size1 z)) (by simp only [aev, cv, cvc, toD_sl, toD_fn, consO_some, toDL_nil, toDL_cons, Option.map_some] <;> rfl) ?_; simp only [awp_cond, seqQ_n, awpOps_nil, upd_s, slot_is, killT, aev, cv, cvc, flat_c, ownsV_sl, ownsV_fn, ownsL_nil, ownsL_cons, ↓reduceIte, List.append_nil, Bool.or_true, List.isEmpty_nil]
  cases h1 : zs.any badDim
  case true => simp only [awp_reg, awp_seq, awp_ret, seqQ_n, seqQ_r, awpOps_nil, awpOps_one, awpOp_is, putK_is, put_s, slot_is, retA_is, pureOp, apureO, aev, cv, cvc, condA_t, toD_c, toD_tup, consO_some, toDL_nil, toDL_cons, notExit, resA_nil, resA_tmp, oneA_2, ↓reduceIte, Option.map_some, Bool.and_self, and_self, Nat.reduceEqDiff]
  simp only [awp_skip, awp_reg, awp_seq, seqQ_n, awpOps_one, awpOp_is, isCallV, callW_is, callV_is, putK_is, put_s, slot_is, pureOp, apureO, aev, cv, cvc, condA_f, Bool.false_eq_true, ↓reduceIte, List.map_cons, List.map_nil, List.append_nil, reduceCtorEq]
  refine call_meets (contains 0 zs hn) (by simp only [aev, cv, cvc, toD_c, toD_sl, consO_some, toDL_nil, toDL_cons] <;> rfl) ?_; simp only [awp_cond, seqQ_n, awpOps_nil, upd_s, slot_is, killT, aev, cv, cvc, flat_c, ownsV_c, ownsV_sl, ownsL_nil, ownsL_cons, ↓reduceIte, List.append_nil, Bool.or_true, List.isEmpty_nil]
  cases h2 : zs.any (fun x => 0 == x)
  case true => simp only [awp_reg, awp_seq, awp_ret, seqQ_n, seqQ_r, awpOps_nil, awpOps_one, awpOp_is, putK_is, put_s, slot_is, retA_is, pureOp, apureO, aev, cv, cvc, condA_t, toD_c, toD_tup, consO_some, toDL_nil, toDL_cons, notExit, resA_nil, resA_tmp, oneA_2, ↓reduceIte, Option.map_some, Bool.and_self, and_self, Nat.reduceEqDiff]
  simp only [awp_skip, awp_reg, awp_seq, awp_block, awp_loop, seqQ_n, awpOps_nil, awpOps_one, awpOp_is, putK_is, put_s, slot_is, pureOp, apureO, aev, cv, cvc, elO_s, lenA, lenK, condA_f, Bool.false_eq_true, ↓reduceIte, Bool.true_and, true_and, reduceCtorEq, Option.isSome_some, Ty.td22, List.length_map]
  refine loop_k (fun x : Nat × Int => x.1 ≤ zs.length ∧ prodE zs 1 = prodE (zs.drop x.1) x.2) (fun x => ⟨27, [(16, I x.1), (15, I zs.length), (14, ints zs), (4, I x.2)], []⟩) (fun x => zs.length - x.1) (0, 1) ⟨Nat.zero_le _, rfl⟩ (by simp only [slot_is, aev, cv, cvc, Weak, ↓reduceIte, Bool.and_true, Bool.and_self, and_true, and_self, Nat.reduceEqDiff]; simp) rfl rfl ?_
  rintro ⟨k, n⟩ ⟨hk, hi⟩ K hK
  simp only at hk hi hK
  simp only [awp_reg, awp_seq, awp_cond, seqQ_n, awpOps_nil, awpOps_one, awpOp_is, putK_is, put_s, slot_is, pureOp, apureO, aev, cv, cvc, binK, ↓reduceIte, Bool.true_and, true_and, Nat.reduceEqDiff]
  refine condA_dec (fun hlt => ?_) (fun hge => ?_)
  · have hlt' : k < zs.length := by omega
    have hx : zs[k]? = some zs[k] := List.getElem?_eq_getElem hlt'
    rw [List.drop_eq_getElem_cons hlt', prodE] at hi
    generalize zs[k] = x at *
    simp only [awp_skip, awp_reg, awp_seq, awp_cond, awp_block, seqQ_n, awpOps_nil, awpOps_one, awpOp_is, putK_is, put_s, slot_is, pureOp, apureO, aev, cv, cvc, binK, elO_s, loadA_d, Int.natCast_nonneg, Bool.false_eq_true, ↓reduceIte, List.getElem?_cons_zero, Option.map_some, Bool.true_and, true_and, Nat.reduceEqDiff, Int.toNat_natCast, Ty.td3, Ty.td22, List.getElem?_map, hx]
    refine condA_dec (fun h3 => ?_) (fun h3 => ?_)
    · rw [if_pos h3] at hi
      simp only [awp_reg, awp_seq, awp_ret, seqQ_n, seqQ_r, loopQ_r, blkQ_r, awpOps_nil, awpOps_one, awpOp_is, putK_is, put_s, slot_is, retA_is, pureOp, apureO, aev, cv, cvc, toD_c, toD_tup, consO_some, toDL_nil, toDL_cons, notExit, resA_nil, resA_tmp, oneA_2, ↓reduceIte, Option.map_some, Bool.and_self, and_self, Nat.reduceEqDiff, hi]
    · rw [if_neg h3] at hi
      simp (disch := omega) only [awp_skip, awp_reg, seqQ_n, loopQ_n, blkQ_n, awpOps_nil, awpOps_one, awpOp_is, putK_is, put_s, slot_is, pureOp, apureO, aev, cv, cvc, binK, ↓reduceIte, Bool.true_and, true_and, Nat.reduceEqDiff, wrap_in]
      refine hK (k + 1, IntKind.i64.wrap (n * x)) _ ⟨hlt', hi⟩ (by simp; omega) ?_ rfl rfl
      simp only [slot_is, aev, cv, cvc, Weak, ↓reduceIte, Bool.and_true, Bool.and_self, and_true, and_self, Nat.reduceEqDiff]
      simp
  · have hk' : k = zs.length := by omega
    simp only [awp_reg, awp_seq, awp_exit, awp_ret, seqQ_n, seqQ_e, loopQ_e, blkQ_e, awpOps_nil, awpOps_one, awpOp_is, putK_is, put_s, slot_is, retA_is, pureOp, apureO, aev, cv, cvc, toD_c, toD_tup, consO_some, toDL_nil, toDL_cons, notExit, resA_nil, resA_tmp, oneA_2, ↓reduceIte, Option.map_some, Bool.true_and, true_and, Nat.reduceEqDiff]
    rw [hi, hk']
    simp [prodE]
end Go.Proofs.Ytbmmemglkjeogaa.A1
