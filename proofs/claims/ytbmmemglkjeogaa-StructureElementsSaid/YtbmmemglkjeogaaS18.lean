/- Structure: windows, chunks, index, update, iota, fill. -/
import Derived.Test.YtbmmemglkjeogaaS16
namespace Go.Proofs.Ytbmmemglkjeogaa.S18
open Go Go.Proofs.Ytbmmemglkjeogaa.Eng Go.Proofs.Ytbmmemglkjeogaa Go.RowKit Go.Proofs.Ytbmmemglkjeogaa.A1 Go.Proofs.Ytbmmemglkjeogaa.A2 Go.Proofs.Ytbmmemglkjeogaa.A3 Go.Proofs.Ytbmmemglkjeogaa.A4 Go.Proofs.Ytbmmemglkjeogaa.A5 Go.Proofs.Ytbmmemglkjeogaa.S1 Go.Proofs.Ytbmmemglkjeogaa.S2 Go.Proofs.Ytbmmemglkjeogaa.S3 Go.Proofs.Ytbmmemglkjeogaa.S4 Go.Proofs.Ytbmmemglkjeogaa.S5 Go.Proofs.Ytbmmemglkjeogaa.S6 Go.Proofs.Ytbmmemglkjeogaa.S7 Go.Proofs.Ytbmmemglkjeogaa.S8 Go.Proofs.Ytbmmemglkjeogaa.S9 Go.Proofs.Ytbmmemglkjeogaa.S10 Go.Proofs.Ytbmmemglkjeogaa.S11 Go.Proofs.Ytbmmemglkjeogaa.S12 Go.Proofs.Ytbmmemglkjeogaa.S13 Go.Proofs.Ytbmmemglkjeogaa.S14 Go.Proofs.Ytbmmemglkjeogaa.S15 Go.Proofs.Ytbmmemglkjeogaa.S16
set_option linter.unusedSimpArgs false
set_option linter.unusedVariables false
set_option linter.unusedSectionVars false
set_option maxRecDepth 100000

def wins (a : List Int) (k : Int) : List Int := gatherE [(a.length : Int) - k + 1, k] fun x y => a.getD (x + y).toNat 0
section
variable {a : List Int}
theorem do_windows {k : Int} (ha : okL a) (h0 : 0 ≤ k) (h1 : k ≤ a.length) (h2 : a.length ≤ 40) : doE n_windows k [lst a] = (intB, [(a.length : Int) - k + 1, k], wins a k) := by
  have h4 := ha.1
  have hm : ((a.length : Int) - k + 1) * k ≤ 4096 := by
    have := Int.mul_le_mul (show (a.length : Int) - k + 1 ≤ 41 by omega) (show k ≤ 40 by omega) h0 (by omega : (0 : Int) ≤ 41)
    omega
  have hrun : Run .windows [k] 0 [lst a] [(a.length : Int) - k + 1, k] := by
    refine ⟨rfl, by simp [bad_lst ha], rdE_mk rfl ?_ ?_ ?_⟩
    · simp only [List.map_cons, List.map_nil, szE, size1d (show (0 : Int) ≤ a.length by omega) (by omega)]
      rfl
    · show wi k a.length [W (W ((a.length : Int) - k) + 1), k] = _
      unfold wi
      rw [if_neg (by omega), W, W, wrap_in (x := (a.length : Int) - k) (by omega) (by omega), wrap_in (by omega) (by omega)]
    · rw [size2d (by omega) (by omega) (by omega) (by omega) hm]
  rw [doE_run (o := .windows) (by kernel_rfl) (show zsE n_windows k = [k] by unfold zsE; rw [show sizedB n_windows = true by kernel_rfl]; rfl) hrun (el := intB) (by kernel_rfl)]
  rfl
theorem wins_len {k : Int} (h0 : 0 ≤ k) (h1 : k ≤ a.length) : ((wins a k).length : Int) = ((a.length : Int) - k + 1) * k := by
  unfold wins
  rw [gather2_len, Int.natCast_mul, Int.toNat_of_nonneg (by omega), Int.toNat_of_nonneg h0]
theorem wins_row {k : Int} {i : Nat} (h0 : 0 ≤ k) (h1 : (i : Int) + k ≤ a.length) : ((wins a k).drop (i * k.toNat)).take k.toNat = (a.drop i).take k.toNat := by
  have hlen := wins_len (a := a) h0 (by omega)
  have hle : i * k.toNat + k.toNat ≤ (wins a k).length := by
    have h3 : ((i + 1 : Nat) : Int) * k ≤ ((a.length : Int) - k + 1) * k := Int.mul_le_mul_of_nonneg_right (by omega) h0
    have h4 : ((i * k.toNat + k.toNat : Nat) : Int) = ((i + 1 : Nat) : Int) * k := by
      rw [show i * k.toNat + k.toNat = (i + 1) * k.toNat by rw [Nat.add_mul, Nat.one_mul], Int.natCast_mul, Int.toNat_of_nonneg h0]
    omega
  apply List.ext_getElem?
  intro j
  rw [List.getElem?_take, List.getElem?_take]
  split
  · rename_i hj
    rw [List.getElem?_drop, List.getElem?_drop]
    have hg := gather2_get (r := (a.length : Int) - k + 1) (c := k) (f := fun x y => a.getD (x + y).toNat 0) (x := i) (y := j) (by omega) (by omega)
    have e1 : (wins a k)[i * k.toNat + j]? = some ((wins a k).getD (i * k.toNat + j) 0) := by
      rw [List.getD_eq_getElem?_getD, List.getElem?_eq_getElem (by omega)]; rfl
    rw [e1]
    have e2 : (wins a k).getD (i * k.toNat + j) 0 = a.getD (i + j) 0 := by
      unfold wins
      rw [hg]
      congr 1
    rw [e2, List.getD_eq_getElem?_getD, List.getElem?_eq_getElem (by omega)]
    rfl
  · rfl
theorem ap_chunk {k : Int} (ha : okL a) (h0 : 1 ≤ k) (h1 : k ≤ 64) (hm : (a.length : Int).tmod k = 0) : apE n_chunk [] k [lst a] = ((intB, [(a.length : Int).tdiv k, k], a), false, 0) := by
  have h4 := ha.1
  have hdv : (a.length : Int).tdiv k * k = a.length := by
    have := Int.mul_tdiv_add_tmod (a.length : Int) k
    rw [hm, Int.add_zero, Int.mul_comm] at this
    exact this
  have hdv0 : 0 ≤ (a.length : Int).tdiv k := Int.tdiv_nonneg (by omega) (by omega)
  have hrun : Run .chunk [] k [lst a] [(a.length : Int).tdiv k, k] := by
    refine ⟨?_, by simp [bad_lst ha], rdE_mk rfl ?_ ?_ ?_⟩
    · show (((((1 : Nat) : Int) == ((1 : Nat) : Int)) && !(((0 : Nat) : Int) != 0) && !((k != 0) && !true)) = true)
      simp
    · simp only [List.map_cons, List.map_nil, szE, size1d (show (0 : Int) ≤ a.length by omega) (by omega)]
      rfl
    · show (if k < 1 ∨ 64 < k then ([], (2 : Int)) else if (a.length : Int).tmod k ≠ 0 then ([], 14) else ([W ((a.length : Int).tdiv k), k], 0)) = _
      have hq : (a.length : Int).tdiv k ≤ 4096 := by
        have := Int.mul_le_mul_of_nonneg_left (show (1 : Int) ≤ k by omega) hdv0
        omega
      rw [if_neg (by omega), if_neg (by simpa using hm), W, wrap_in (by omega) (by omega)]
    · have hq : (a.length : Int).tdiv k ≤ 4096 := by
        have := Int.mul_le_mul_of_nonneg_left (show (1 : Int) ≤ k by omega) hdv0
        omega
      rw [size2d hdv0 hq (by omega) (by omega) (by omega)]
  rw [apE_run (o := .chunk) (by kernel_rfl) hrun (el := intB) (by kernel_rfl)]
  have e1 : gatherE [(a.length : Int).tdiv k, k] (elF .chunk (szV [] k) [lst a]) = a := by
    refine gather2_eq hdv0 (by omega) hdv.symm fun x y hx hy => ?_
    show a.getD ((x : Int) * k + y).toNat 0 = _
    congr 1
    have : ((x * k.toNat + y : Nat) : Int) = (x : Int) * k + y := by rw [Int.natCast_add, Int.natCast_mul, Int.toNat_of_nonneg (by omega)]
    omega
  rw [e1, show isNm n_chunk = false by kernel_rfl]
  rfl

theorem ap_index {k : Int} (ha : okL a) (hk : validE intB k = true) : apE n_index [] 0 [lst a, scl k] = (scl (if insideE k a.length = true then a.getD k.toNat 0 else 0), !insideE k a.length, 0) := by
  have h4 := ha.1
  have hrun : Run .index [] 0 [lst a, scl k] [] := by
    refine ⟨rfl, by simp [bad_lst ha, bad_scl hk], rdE_mk rfl ?_ rfl rfl⟩
    simp only [List.map_cons, List.map_nil, szE, size1d (show (0 : Int) ≤ a.length by omega) (by omega), size0]
    rfl
  rw [apE_run (o := .index) (by kernel_rfl) hrun (el := intB) (by kernel_rfl), show isNm n_index = true by kernel_rfl]
  rfl
def upd (a : List Int) (i v : Int) : List Int := if insideE i a.length = true then a.set i.toNat v else a
theorem upd_len (i v : Int) : (upd a i v).length = a.length := by unfold upd; split <;> simp
theorem upd_get (i v : Int) {k : Nat} (hk : k < a.length) : (upd a i v).getD k 0 = if insideE i a.length = true ∧ (k : Int) = i then v else a.getD k 0 := by
  unfold upd
  cases hi : insideE i a.length with
  | false => simp
  | true =>
    simp [insideE] at hi
    simp only [if_true, true_and]
    rw [List.getD_eq_getElem?_getD, List.getElem?_set]
    by_cases h : (k : Int) = i
    · rw [if_pos (by omega), if_pos (by omega), if_pos h]; rfl
    · rw [if_neg (by omega), if_neg h, List.getD_eq_getElem?_getD]
theorem okL.upd {i v : Int} (ha : okL a) (hv : validE intB v = true) : okL (upd a i v) := by
  refine ⟨by rw [upd_len]; exact ha.1, fun z hz => ?_⟩
  unfold S18.upd at hz
  split at hz
  · rcases List.mem_or_eq_of_mem_set hz with h | h
    · exact ha.2 z h
    · rw [h]; exact hv
  · exact ha.2 z hz
theorem ap_update {i v : Int} (ha : okL a) (hi : validE intB i = true) (hv : validE intB v = true) : apE n_update [] 0 [lst a, scl i, scl v] = (lst (upd a i v), !insideE i a.length, 0) := by
  have h4 := ha.1
  have hrun : Run .update [] 0 [lst a, scl i, scl v] [((upd a i v).length : Int)] := by
    refine ⟨rfl, by simp [bad_lst ha, bad_scl hi, bad_scl hv], rdE_mk rfl ?_ ?_ ?_⟩
    · simp only [List.map_cons, List.map_nil, szE, size1d (show (0 : Int) ≤ a.length by omega) (by omega), size0]
      rfl
    · rw [upd_len]; rfl
    · rw [upd_len, size1d (by omega) (by omega)]
  rw [apE_run (o := .update) (by kernel_rfl) hrun (el := intB) (by kernel_rfl), show isNm n_update = true by kernel_rfl]
  have e1 : gatherE [((upd a i v).length : Int)] (elF .update (szV [] 0) [lst a, scl i, scl v]) = upd a i v := by
    refine gather1_eq rfl fun x hx => ?_
    rw [upd_len] at hx
    rw [upd_get i v hx]
    show (if (x : Int) = i then v else a.getD (x : Int).toNat 0) = _
    by_cases h : (x : Int) = i
    · rw [if_pos h, if_pos ⟨by simp [insideE]; omega, h⟩]
    · rw [if_neg h, if_neg (fun h' => h h'.2)]; rfl
  rw [e1]
  rfl
theorem do_iota {n : Nat} (hn : n ≤ 4096) : doE n_iota n [] = lst ((List.range n).map fun (i : Nat) => (i : Int)) := by
  have hrun : Run .iota [(n : Int)] 0 [] [((((List.range n).map fun (i : Nat) => (i : Int)).length : Nat) : Int)] := by
    refine ⟨rfl, rfl, rdE_mk rfl rfl ?_ ?_⟩
    · show wi n (max (n : Int) 0) [(n : Int)] = _
      unfold wi
      rw [if_neg (by omega), List.length_map, List.length_range]
    · rw [List.length_map, List.length_range, size1d (by omega) (by omega)]
  rw [doE_run (o := .iota) (by kernel_rfl) (show zsE n_iota n = [(n : Int)] by unfold zsE; rw [show sizedB n_iota = true by kernel_rfl]; rfl) hrun (el := intB) (by kernel_rfl)]
  refine congrArg _ (congrArg _ (gather1_eq rfl fun i hi => ?_))
  rw [List.length_map, List.length_range] at hi
  show (i : Int) = _
  rw [List.getD_eq_getElem?_getD, List.getElem?_map, List.getElem?_range hi]
  rfl
theorem do_fill {n : Nat} {v : Int} (hn : n ≤ 4096) (hv : validE intB v = true) : doE n_fill n [scl v] = lst (List.replicate n v) := by
  have hrun : Run .fill [(n : Int)] 0 [scl v] [((List.replicate n v).length : Int)] := by
    refine ⟨rfl, by simp [bad_scl hv], rdE_mk rfl rfl ?_ ?_⟩
    · show wi n (max (n : Int) 0) [(n : Int)] = _
      unfold wi
      rw [if_neg (by omega), List.length_replicate]
    · rw [List.length_replicate, size1d (by omega) (by omega)]
  rw [doE_run (o := .fill) (by kernel_rfl) (show zsE n_fill n = [(n : Int)] by unfold zsE; rw [show sizedB n_fill = true by kernel_rfl]; rfl) hrun (el := intB) (by kernel_rfl)]
  refine congrArg _ (congrArg _ (gather1_eq rfl fun i hi => ?_))
  rw [List.length_replicate] at hi
  show v = _
  rw [List.getD_eq_getElem?_getD, List.getElem?_replicate, if_pos hi]
  rfl
end
theorem valid_int {n : Int} (h0 : -2147483648 ≤ n) (h1 : n ≤ 2147483647) : validE intB n = true := by
  unfold validE
  rw [show isI intB = true by kernel_rfl]
  simp
  omega
end Go.Proofs.Ytbmmemglkjeogaa.S18
