/- Views: the offsets of one and two dimensions; parts of views. -/
import Derived.Test.YtimagnkdgpfamaaV7
namespace Go.Proofs.Ytimagnkdgpfamaa.V9
open Go Go.Proofs.Ytimagnkdgpfamaa.Eng Go.Proofs.Ytimagnkdgpfamaa Go.RowKit Go.Proofs.Ytimagnkdgpfamaa.A1 Go.Proofs.Ytimagnkdgpfamaa.A2 Go.Proofs.Ytimagnkdgpfamaa.A3 Go.Proofs.Ytimagnkdgpfamaa.A4 Go.Proofs.Ytimagnkdgpfamaa.A5 Go.Proofs.Ytimagnkdgpfamaa.A8 Go.Proofs.Ytimagnkdgpfamaa.A10 Go.Proofs.Ytimagnkdgpfamaa.V1 Go.Proofs.Ytimagnkdgpfamaa.V2 Go.Proofs.Ytimagnkdgpfamaa.V3 Go.Proofs.Ytimagnkdgpfamaa.V4 Go.Proofs.Ytimagnkdgpfamaa.V5 Go.Proofs.Ytimagnkdgpfamaa.V6 Go.Proofs.Ytimagnkdgpfamaa.V7
set_option linter.unusedSimpArgs false
set_option linter.unusedVariables false
set_option linter.unusedSectionVars false
set_option maxRecDepth 100000

theorem size1 {n : Nat} (h : n ≤ 4096) : sizeE [(n : Int)] = ((n : Int), 0) := by
  unfold sizeE
  rw [if_neg (by simp), if_neg (by simp [badDim]; omega)]
  by_cases h0 : n = 0
  · subst h0; rfl
  · rw [if_neg (by simp; omega)]
    simp only [prodE]
    rw [Int.one_mul, wrap_in (by omega) (by omega), if_neg (by omega)]
theorem size2 {a b : Nat} (h : a * b ≤ 4096) (ha : a ≤ 4096) (hb : b ≤ 4096) : sizeE [(a : Int), (b : Int)] = (((a * b : Nat) : Int), 0) := by
  unfold sizeE
  rw [if_neg (by simp), if_neg (by simp [badDim]; omega)]
  by_cases h0 : a = 0 ∨ b = 0
  · rw [if_pos (by simp; omega)]
    rcases h0 with h0 | h0 <;> subst h0 <;> simp
  · rw [if_neg (by simp; omega)]
    simp only [prodE]
    have hab : (a : Int) * (b : Int) = ((a * b : Nat) : Int) := by simp
    rw [Int.one_mul, wrap_in (x := (a : Int)) (by omega) (by omega), hab, wrap_in (x := ((a * b : Nat) : Int)) (by omega) (by omega), if_neg (by omega), if_neg (by omega)]

theorem wN {q : Nat} (h : q ≤ 1000000000) : IntKind.i64.wrap (q : Int) = (q : Int) := wrap_in (by omega) (by omega)
theorem dot1 {n s o i : Nat} (h : i < n) (hn : n ≤ 4096) (hs : s ≤ 4096) (ho : o ≤ 4096) : dot (idxR [(n : Int)] (i : Int)).1 [(s : Int)] (o : Int) = ((o + i * s : Nat) : Int) := by
  simp only [idxR, dot]
  have e1 : (i : Int).tmod (n : Int) = (i : Int) := by
    rw [show (i : Int).tmod (n : Int) = ((i % n : Nat) : Int) from rfl, Nat.mod_eq_of_lt h]
  have hm : i * s ≤ 4096 * 4096 := Nat.mul_le_mul (by omega) hs
  have e2 : (i : Int) * (s : Int) = ((i * s : Nat) : Int) := by simp
  rw [e1, e2]
  generalize i * s = q at *
  rw [wrap_in (x := (q : Int)) (by omega) (by omega), wrap_in (by omega) (by omega)]
  omega
theorem dot2 {a b s t i : Nat} (h : i < a * b) (hab : a * b ≤ 4096) (hs : s ≤ 4096) (ht : t ≤ 4096) : dot (idxR [(a : Int), (b : Int)] (i : Int)).1 [(s : Int), (t : Int)] 0 = ((i / b * s + i % b * t : Nat) : Int) := by
  simp only [idxR, dot]
  have hb : 0 < b := by
    rcases Nat.eq_zero_or_pos b with h0 | h0
    · subst h0; simp at h
    · exact h0
  have hq : i / b < a := by rw [Nat.div_lt_iff_lt_mul hb]; exact h
  have hq2 : i / b ≤ i := Nat.div_le_self _ _
  have hr2 : i % b ≤ i := Nat.mod_le _ _
  have e0 : (i : Int).tdiv (b : Int) = ((i / b : Nat) : Int) := rfl
  have e0' : (i : Int).tmod (b : Int) = ((i % b : Nat) : Int) := rfl
  have e1 : W ((i / b : Nat) : Int) = ((i / b : Nat) : Int) := wN (Nat.le_trans hq2 (by omega))
  have e2 : ((i / b : Nat) : Int).tmod (a : Int) = ((i / b : Nat) : Int) := by
    rw [show ((i / b : Nat) : Int).tmod (a : Int) = ((i / b % a : Nat) : Int) from rfl, Nat.mod_eq_of_lt hq]
  have e3 : ((i / b : Nat) : Int) * (s : Int) = ((i / b * s : Nat) : Int) := (Int.natCast_mul _ _).symm
  have e4 : ((i % b : Nat) : Int) * (t : Int) = ((i % b * t : Nat) : Int) := (Int.natCast_mul _ _).symm
  have h1 : i / b * s ≤ 4096 * 4096 := Nat.mul_le_mul (by omega) hs
  have h2 : i % b * t ≤ 4096 * 4096 := Nat.mul_le_mul (by omega) ht
  rw [e0, e0', show IntKind.i64.wrap ((i / b : Nat) : Int) = ((i / b : Nat) : Int) from e1, e2, e3, e4]
  generalize i / b * s = x at *
  generalize i % b * t = y at *
  rw [wrap_in (x := (x : Int)) (by omega) (by omega), wrap_in (x := (y : Int)) (by omega) (by omega), wrap_in (x := 0 + (x : Int)) (by omega) (by omega), wrap_in (by omega) (by omega)]
  omega

def L1 (o n s : Nat) : List Int := (List.range n).map fun i => ((o + i * s : Nat) : Int)
def L2 (a b s t : Nat) : List Int := (List.range (a * b)).map fun i => ((i / b * s + i % b * t : Nat) : Int)
theorem L1_len (o n s : Nat) : (L1 o n s).length = n := by simp [L1]
theorem L2_len (a b s t : Nat) : (L2 a b s t).length = a * b := by simp [L2]
theorem L1_cat {d p o : Nat} (hp : p ≤ d) (ho : o = p ∨ p = d) : L1 0 p 1 ++ L1 o (d - p) 1 = L1 0 d 1 := by
  unfold L1
  rw [show List.range d = List.range (p + (d - p)) by rw [Nat.add_sub_cancel' hp], List.range_add, List.map_append, List.map_map]
  congr 1
  rcases ho with ho | ho
  · subst ho
    apply List.map_congr_left
    intro i _
    simp
  · subst ho
    simp
theorem offs_1 {n s o : Nat} (hn : n ≤ 4096) (hs : s ≤ 4096) (ho : o ≤ 4096) : offsE (o : Int) [(n : Int)] [(s : Int)] = L1 o n s := by
  unfold offsE
  rw [size1 hn, if_pos (by simp [formed, size1 hn]), Int.toNat_natCast]
  unfold offs L1
  exact List.map_congr_left fun i hi => dot1 (List.mem_range.1 hi) hn hs ho
theorem offs_2 {a b s t : Nat} (h : a * b ≤ 4096) (ha : a ≤ 4096) (hb : b ≤ 4096) (hs : s ≤ 4096) (ht : t ≤ 4096) : offsE 0 [(a : Int), (b : Int)] [(s : Int), (t : Int)] = L2 a b s t := by
  unfold offsE
  rw [size2 h ha hb, if_pos (by simp [formed, size2 h ha hb]), Int.toNat_natCast]
  unfold offs L2
  exact List.map_congr_left fun i hi => dot2 (List.mem_range.1 hi) h hs ht

/-! What the steps make of the view of one dimension. -/
theorem formed1 {d s : Nat} (h : d ≤ 4096) : formed [(d : Int)] [(s : Int)] = true := by simp [formed, size1 h]
theorem of1 {d : Nat} (h : d ≤ 60) : ofV [(d : Int)] = ((0, [(d : Int)], [1]), 0) := by
  unfold ofV
  rw [size1 (by omega), if_neg (by simp)]
  rfl
theorem take_1 {d p : Nat} (h : d ≤ 60) (hp : p ≤ d) : stepE 0 [(d : Int)] [1] 1 (takeC (lst [(d : Int)] 1) (lst [1] 1) p) = ((0, [(p : Int)], [1]), 0) := by
  have hf : formed [(d : Int)] [1] = true := formed1 (s := 1) (by omega)
  rw [show takeC (lst [(d : Int)] 1) (lst [1] 1) p = ((0, [(p : Int)], [1]), 0) by unfold takeC; rw [if_neg (by simp [lst]; omega)]; rfl, stepE_made hf (by simp)]
  unfold madeE
  simp only [List.length_singleton, Nat.sub_self, List.take_zero, List.nil_append]
  rw [size1 (by omega), if_neg (by simp)]
  rfl
theorem drop_1 {d p : Nat} (h : d ≤ 60) (hp : p ≤ d) : ∃ o : Nat, stepE 0 [(d : Int)] [1] 1 (dropC (lst [(d : Int)] 1) (lst [1] 1) p) = (((o : Int), [((d - p : Nat) : Int)], [1]), 0) ∧ (o = p ∨ p = d) ∧ o ≤ 60 := by
  have hf : formed [(d : Int)] [1] = true := formed1 (s := 1) (by omega)
  by_cases hpd : p = d
  · subst hpd
    refine ⟨0, ?_, Or.inr rfl, by omega⟩
    rw [show dropC (lst [(p : Int)] 1) (lst [1] 1) p = ((0, [0], [1]), 0) by unfold dropC; rw [if_neg (by simp [lst]), if_pos (show (p : Int) = lst [(p : Int)] 1 from rfl)]; rfl, stepE_made hf (by simp)]
    unfold madeE
    simp only [List.length_singleton, Nat.sub_self, List.take_zero, List.nil_append]
    rfl
  · refine ⟨p, ?_, Or.inl rfl, by omega⟩
    have hW1 : W ((p : Int) * 1) = p := by rw [Int.mul_one]; exact wrap_in (by omega) (by omega)
    have hW2 : W ((d : Int) - p) = ((d - p : Nat) : Int) := by rw [wW (by omega) (by omega)]; omega
    have hW3 : W (0 + (p : Int)) = p := by rw [Int.zero_add]; exact wrap_in (by omega) (by omega)
    have hc : dropC (lst [(d : Int)] 1) (lst [1] 1) p = (((p : Int), [((d - p : Nat) : Int)], [1]), 0) := by
      unfold dropC
      rw [show lst [(d : Int)] 1 = d from rfl, show lst [(1 : Int)] 1 = 1 from rfl, if_neg (by omega), if_neg (by omega), hW1, hW2]
    rw [hc, stepE_made hf (by simp), hW3]
    unfold madeE
    simp only [List.length_singleton, Nat.sub_self, List.take_zero, List.nil_append]
    rw [size1 (by omega), if_neg (by simp)]
theorem win_1 {d p : Nat} (h : d ≤ 60) (hp : p ≤ d) : stepE 0 [(d : Int)] [1] 1 (winC (lst [(d : Int)] 1) (lst [1] 1) p) = ((0, [((d - p + 1 : Nat) : Int), (p : Int)], [1, 1]), 0) := by
  have hf : formed [(d : Int)] [1] = true := formed1 (s := 1) (by omega)
  have hW2 : W (W ((d : Int) - p) + 1) = ((d - p + 1 : Nat) : Int) := by rw [wW (x := (d : Int) - p) (by omega) (by omega), wW (by omega) (by omega)]; omega
  have hc : winC (lst [(d : Int)] 1) (lst [1] 1) p = ((0, [((d - p + 1 : Nat) : Int), (p : Int)], [1, 1]), 0) := by
    unfold winC
    rw [show lst [(d : Int)] 1 = d from rfl, show lst [(1 : Int)] 1 = 1 from rfl, if_neg (by omega), hW2]
  have hm : (d - p + 1) * p ≤ 61 * 60 := Nat.mul_le_mul (by omega) (by omega)
  rw [hc, stepE_made hf (by simp)]
  unfold madeE
  simp only [List.length_singleton, Nat.sub_self, List.take_zero, List.nil_append]
  rw [size2 (by omega) (by omega) (by omega), if_neg (by simp)]
  rfl
theorem chu_no {d m : Nat} (h : d ≤ 60) (hm1 : 1 ≤ m) (hm2 : m ≤ 8) (hmd : d % m ≠ 0) : stepE 0 [(d : Int)] [1] 1 (chuC (lst [(d : Int)] 1) (lst [1] 1) m) = ((0, [], []), 14) := by
  have hf : formed [(d : Int)] [1] = true := formed1 (s := 1) (by omega)
  have hc : chuC (lst [(d : Int)] 1) (lst [1] 1) m = noC 14 := by
    unfold chuC
    rw [show lst [(d : Int)] 1 = d from rfl, show lst [(1 : Int)] 1 = 1 from rfl, if_neg (by omega), if_pos (by rw [show (d : Int).tmod m = ((d % m : Nat) : Int) from rfl]; omega)]
  rw [hc, stepE_err hf (by simp) (by omega)]
theorem chu_1 {d m : Nat} (h : d ≤ 60) (hm1 : 1 ≤ m) (hm2 : m ≤ 8) (hmd : d % m = 0) : stepE 0 [(d : Int)] [1] 1 (chuC (lst [(d : Int)] 1) (lst [1] 1) m) = ((0, [((d / m : Nat) : Int), (m : Int)], [(m : Int), 1]), 0) := by
  have hf : formed [(d : Int)] [1] = true := formed1 (s := 1) (by omega)
  have hdm : d / m ≤ d := Nat.div_le_self _ _
  have hW1 : W ((d : Int).tdiv m) = ((d / m : Nat) : Int) := by rw [show (d : Int).tdiv m = ((d / m : Nat) : Int) from rfl]; exact wN (Nat.le_trans hdm (by omega))
  have hW2 : W ((m : Int) * 1) = m := by rw [Int.mul_one]; exact wrap_in (by omega) (by omega)
  have hc : chuC (lst [(d : Int)] 1) (lst [1] 1) m = ((0, [((d / m : Nat) : Int), (m : Int)], [(m : Int), 1]), 0) := by
    unfold chuC
    rw [show lst [(d : Int)] 1 = d from rfl, show lst [(1 : Int)] 1 = 1 from rfl, if_neg (by omega), if_neg (by rw [show (d : Int).tmod m = ((d % m : Nat) : Int) from rfl]; omega), hW1, hW2]
  have hm : d / m * m ≤ d := Nat.div_mul_le_self _ _
  rw [hc, stepE_made hf (by simp)]
  unfold madeE
  simp only [List.length_singleton, Nat.sub_self, List.take_zero, List.nil_append]
  rw [size2 (by omega) (by omega) (by omega), if_neg (by simp)]
  rfl
theorem of2 {m : Nat} (hm1 : 1 ≤ m) (hm2 : m ≤ 8) : ofV [(m : Int), (m : Int)] = ((0, [(m : Int), (m : Int)], [(m : Int), 1]), 0) := by
  unfold ofV
  have hm : m * m ≤ 8 * 8 := Nat.mul_le_mul hm2 hm2
  rw [size2 (by omega) (by omega) (by omega), if_neg (by simp)]
  simp only [strd]
  rw [Int.one_mul, wrap_in (x := (m : Int)) (by omega) (by omega)]
theorem dia_1 {m : Nat} (hm1 : 1 ≤ m) (hm2 : m ≤ 8) : stepE 0 [(m : Int), (m : Int)] [(m : Int), 1] 2 (diaC (lst [(m : Int), (m : Int)] 2) (lst [(m : Int), (m : Int)] 1) (lst [(m : Int), 1] 2) (lst [(m : Int), 1] 1)) = ((0, [(m : Int)], [((m + 1 : Nat) : Int)]), 0) := by
  have hm : m * m ≤ 8 * 8 := Nat.mul_le_mul hm2 hm2
  have hf : formed [(m : Int), (m : Int)] [(m : Int), 1] = true := by simp [formed, size2 (a := m) (b := m) (by omega) (by omega) (by omega)]
  have hW1 : W ((m : Int) + 1) = ((m + 1 : Nat) : Int) := by rw [wW (by omega) (by omega)]; omega
  have hc : diaC (lst [(m : Int), (m : Int)] 2) (lst [(m : Int), (m : Int)] 1) (lst [(m : Int), 1] 2) (lst [(m : Int), 1] 1) = ((0, [(m : Int)], [((m + 1 : Nat) : Int)]), 0) := by
    rw [show lst [(m : Int), (m : Int)] 2 = m from rfl, show lst [(m : Int), (m : Int)] 1 = m from rfl, show lst [(m : Int), 1] 2 = m from rfl, show lst [(m : Int), 1] 1 = 1 from rfl]
    unfold diaC
    rw [if_neg (by simp), hW1]
  rw [hc, stepE_made hf (by simp)]
  unfold madeE
  simp only [List.length_cons, List.length_nil, Nat.zero_add, Nat.reduceAdd, Nat.sub_self, List.take_zero, List.nil_append]
  rw [size1 (by omega), if_neg (by simp)]
  rfl

/-! Rows of consecutive numbers. -/
theorem rows_ok (a b st : Nat) (hab : a * b ≤ 4096) (hst : st ≤ 4096) : Meets Try.prog 34 [ints (L2 a b st 1), I b, I st] (B true) := by
  have hlen := L2_len a b st 1
  refine meets_of (X := true) Ty.mixed Try.func34 (by kernel_rfl) rfl (by kernel_rfl) (by simp) ?_; rw [Try.ntmps34, Try.results34]
  simp only [awp_reg, awp_seq, awp_block, awp_loop, seqQ_n, awpOps_nil, awpOps_one, awpOp_is, putK_is, put_s, slot_is, pureOp, apureO, aev, cv, cvc, elO_s, lenA, lenK, argT, ↓reduceIte, Bool.true_and, true_and, reduceCtorEq, Nat.reduceAdd, Nat.zero_add, Option.isSome_some, Ty.td22, List.length_map, hlen]
  refine loop_k (fun k : Nat => k ≤ a * b) (fun k => ⟨28, [(10, I k), (9, I ((a * b : Nat) : Int)), (0, ints (L2 a b st 1)), (1, I b), (2, I st)], []⟩) (fun k => a * b - k) 0 (Nat.zero_le _) (by simp only [slot_is, aev, cv, cvc, Weak, ↓reduceIte, Bool.and_true, Bool.and_self, and_true, and_self, reduceCtorEq, Nat.reduceEqDiff]; simp) rfl rfl ?_
  intro k hk K hK
  simp only at hK
  simp only [awp_reg, awp_seq, awp_cond, seqQ_n, awpOps_nil, awpOps_one, awpOp_is, putK_is, put_s, slot_is, pureOp, apureO, aev, cv, cvc, binK, ↓reduceIte, Bool.true_and, true_and, Nat.reduceEqDiff]
  refine condA_dec (fun hlt => ?_) (fun hge => ?_)
  · have hlt' : k < a * b := by omega
    have hx : (L2 a b st 1)[k]? = some (((k / b * st + k % b * 1 : Nat)) : Int) := by simp [L2, hlt']
    have hb : (b : Int) ≠ 0 := by
      intro h0
      have : b = 0 := by omega
      subst this; simp at hlt'
    have hq2 : k / b ≤ k := Nat.div_le_self _ _
    have hr2 : k % b ≤ k := Nat.mod_le _ _
    have h1 : k / b * st ≤ 4096 * 4096 := Nat.mul_le_mul (by omega) hst
    have e0 : (k : Int).tdiv (b : Int) = ((k / b : Nat) : Int) := rfl
    have e0' : (k : Int).tmod (b : Int) = ((k % b : Nat) : Int) := rfl
    have e1 : IntKind.i64.wrap ((k / b : Nat) : Int) = ((k / b : Nat) : Int) := wN (Nat.le_trans hq2 (by omega))
    have e3 : ((k / b : Nat) : Int) * (st : Int) = ((k / b * st : Nat) : Int) := (Int.natCast_mul _ _).symm
    have e4 : IntKind.i64.wrap ((k / b * st : Nat) : Int) = ((k / b * st : Nat) : Int) := wN (by omega)
    have e5 : IntKind.i64.wrap (((k / b * st : Nat) : Int) + ((k % b : Nat) : Int)) = ((k / b * st + k % b * 1 : Nat) : Int) := by
      rw [← Int.natCast_add, wN (by omega), Nat.mul_one]
    have hbne : ((((k / b * st + k % b * 1 : Nat)) : Int) != ((k / b * st + k % b * 1 : Nat) : Int)) = false := bne_self_eq_false _
    have e6 : IntKind.i64.wrap ((k : Int) + 1) = (k : Int) + 1 := wrap_in (by omega) (by omega)
    generalize L2 a b st 1 = l at *
    simp only [awp_regX, awp_skip, awp_reg, awp_seq, awp_block, seqQ_n, awpOps_nil, awpOps_one, awpOp_is, putK_is, put_s, slot_is, pureOp, apureO, aev, cv, cvc, ↓reduceIte, Nat.reduceEqDiff]
    refine drawS_tail (by kernel_rfl) ?_; simp only [awp_skip, awp_reg, awp_cond, seqQ_n, loopQ_n, blkQ_n, awpOps_nil, awpOps_one, awpOpsD_nil, awpOpsD_one, awpOp_is, awpOpD_is, putK_is, put_s, slot_is, keepOp, pureOp, apureO, aev, cv, cvc, binK, elO_s, loadA_d, condA_f, Int.natCast_nonneg, Bool.false_eq_true, ↓reduceIte, List.getElem?_cons_zero, Option.map_some, Bool.true_and, true_and, ne_eq, not_false_eq_true, reduceCtorEq, Nat.reduceEqDiff, Int.toNat_natCast, Ty.td3, Ty.td22, List.getElem?_map, hx, e0, e0', e1, e3, e4, e5, e6, hbne, hb]
    refine hK (k + 1) _ hlt' (by omega) ?_ rfl rfl
    simp only [slot_is, aev, cv, cvc, Weak, ↓reduceIte, Bool.and_true, Bool.and_self, and_true, and_self, reduceCtorEq, Nat.reduceEqDiff]
    simp
  · simp only [awp_reg, awp_seq, awp_exit, awp_ret, seqQ_n, seqQ_e, loopQ_e, blkQ_e, awpOps_nil, awpOps_one, awpOp_is, putK_is, put_s, slot_is, retA_is, pureOp, apureO, aev, cv, cvc, toD_c, notExit, resA_nil, resA_tmp, oneA_1, ↓reduceIte, Bool.and_self, and_self]
end Go.Proofs.Ytimagnkdgpfamaa.V9
