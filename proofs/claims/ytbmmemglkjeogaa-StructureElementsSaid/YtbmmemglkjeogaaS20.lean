/- Structure: elements: what index and update make. -/
import Derived.Test.YtbmmemglkjeogaaS19
namespace Go.Proofs.Ytbmmemglkjeogaa.S20
open Go Go.Proofs.Ytbmmemglkjeogaa.Eng Go.Proofs.Ytbmmemglkjeogaa Go.RowKit Go.Proofs.Ytbmmemglkjeogaa.A1 Go.Proofs.Ytbmmemglkjeogaa.A2 Go.Proofs.Ytbmmemglkjeogaa.A3 Go.Proofs.Ytbmmemglkjeogaa.A4 Go.Proofs.Ytbmmemglkjeogaa.A5 Go.Proofs.Ytbmmemglkjeogaa.S1 Go.Proofs.Ytbmmemglkjeogaa.S2 Go.Proofs.Ytbmmemglkjeogaa.S3 Go.Proofs.Ytbmmemglkjeogaa.S4 Go.Proofs.Ytbmmemglkjeogaa.S5 Go.Proofs.Ytbmmemglkjeogaa.S6 Go.Proofs.Ytbmmemglkjeogaa.S7 Go.Proofs.Ytbmmemglkjeogaa.S8 Go.Proofs.Ytbmmemglkjeogaa.S9 Go.Proofs.Ytbmmemglkjeogaa.S10 Go.Proofs.Ytbmmemglkjeogaa.S11 Go.Proofs.Ytbmmemglkjeogaa.S12 Go.Proofs.Ytbmmemglkjeogaa.S13 Go.Proofs.Ytbmmemglkjeogaa.S14 Go.Proofs.Ytbmmemglkjeogaa.S15 Go.Proofs.Ytbmmemglkjeogaa.S16 Go.Proofs.Ytbmmemglkjeogaa.S18 Go.Proofs.Ytbmmemglkjeogaa.S19
set_option linter.unusedSimpArgs false
set_option linter.unusedVariables false
set_option linter.unusedSectionVars false
set_option maxRecDepth 100000

abbrev sV (n : Int) : List AV := [S intB, ints [], ints [n]]
abbrev cV (n : Int) : AV := .agg [S intB, ints [], ints [n]]
theorem small_scl (n : Int) : smallA (scl n) := ⟨by simp, by simp⟩
section
variable {a : List Int} {i k v : Int}
def atE (a : List Int) (k : Int) : Int := if insideE k a.length = true then a.getD k.toNat 0 else 0
theorem m_index (ha : okL a) (hk : validE intB k = true) : Meets Try.prog 11 [S n_index, .nils, I 0, .sl false 3 [aV a, sV k]] (.tup [cV (atE a k), B (!insideE k a.length), I 0]) := by
  have := apply_fn n_index [] 0 [lst a, scl k] (by simp) (by
    intro x hx
    simp only [List.mem_cons, List.not_mem_nil, or_false] at hx
    rcases hx with rfl | rfl
    · exact small_lst ha
    · exact small_scl k)
  rw [ap_index ha hk] at this
  exact Meets.nil (pre := [S n_index]) (post := [I 0, arrs [lst a, scl k]]) this
theorem m_update (ha : okL a) (hi : validE intB i = true) (hv : validE intB v = true) : Meets Try.prog 11 [S n_update, .nils, I 0, .sl false 3 [aV a, sV i, sV v]] (.tup [lV (upd a i v), B (!insideE i a.length), I 0]) := by
  have := apply_fn n_update [] 0 [lst a, scl i, scl v] (by simp) (by
    intro x hx
    simp only [List.mem_cons, List.not_mem_nil, or_false] at hx
    rcases hx with rfl | rfl | rfl
    · exact small_lst ha
    · exact small_scl i
    · exact small_scl v)
  rw [ap_update ha hi hv] at this
  exact Meets.nil (pre := [S n_update]) (post := [I 0, arrs [lst a, scl i, scl v]]) this
theorem at_valid (ha : okL a) : validE intB (atE a k) = true := by
  unfold atE
  split
  · rename_i h
    simp [insideE] at h
    rw [List.getD_eq_getElem?_getD, List.getElem?_eq_getElem (by omega)]
    exact ha.2 _ (List.getElem_mem _)
  · exact valid_int (by omega) (by omega)
theorem m_csame (hv : validE intB v = true) : Meets Try.prog 29 [cV v, cV v] (B true) := by
  have := same_ (scl v) (scl v) (small_scl v) (small_scl v)
  rwa [sameE_refl' (good (bad_scl hv))] at this
where
  sameE_refl' {a : Ar} (h : checkE a.1 a.2.1 a.2.2 = 0) : sameE a a = true := by
    unfold sameE eqA
    rw [h]
    simp
theorem m_doindex (ha : okL a) (hk : validE intB k = true) : Meets Try.prog 28 [S n_index, I 0, .sl false 3 [aV a, sV k]] (cV (atE a k)) := by
  have := do_ n_index 0 [lst a, scl k] (by decide) (by simp) (by
    intro x hx
    simp only [List.mem_cons, List.not_mem_nil, or_false] at hx
    rcases hx with rfl | rfl
    · exact small_lst ha
    · exact small_scl k)
  have e : doE n_index 0 [lst a, scl k] = scl (atE a k) := by
    unfold doE
    rw [show zsE n_index 0 = [] by kernel_rfl, ap_index ha hk]
    rfl
  rwa [e] at this
theorem m_iota (n : Nat) (hn : n ≤ 4096) : Meets Try.prog 28 [S n_iota, I n, .nils] (lV ((List.range n).map fun (i : Nat) => (i : Int))) := by
  have := do_ n_iota n [] (by decide) (by simp) (by simp)
  rw [do_iota hn] at this
  exact Meets.nil (pre := [S n_iota, I n]) (post := []) this
theorem m_fill (n : Nat) (hn : n ≤ 4096) (hv : validE intB v = true) : Meets Try.prog 28 [S n_fill, I n, .sl false 3 [sV v]] (lV (List.replicate n v)) := by
  have := do_ n_fill n [scl v] (by decide) (by simp) (by
    intro x hx
    simp only [List.mem_cons, List.not_mem_nil, or_false] at hx
    rw [hx]; exact small_scl v)
  rwa [do_fill hn hv] at this
theorem okL_iota {n : Nat} (hn : n ≤ 4096) : okL ((List.range n).map fun (i : Nat) => (i : Int)) := ⟨by simpa using hn, fun z hz => by
  obtain ⟨j, hj, rfl⟩ := List.mem_map.1 hz
  have := List.mem_range.1 hj
  exact valid_int (by omega) (by omega)⟩
theorem okL_fill {n : Nat} (hn : n ≤ 4096) (hv : validE intB v = true) : okL (List.replicate n v) := ⟨by simpa using hn, fun z hz => by rw [(List.mem_replicate.1 hz).2]; exact hv⟩
theorem at_iota {n : Nat} (h0 : 0 ≤ k) (h1 : k < n) : atE ((List.range n).map fun (i : Nat) => (i : Int)) k = k := by
  unfold atE
  rw [List.length_map, List.length_range, if_pos (by simp [insideE]; omega), List.getD_eq_getElem?_getD, List.getElem?_map, List.getElem?_range (by omega)]
  simp
  omega
theorem at_fill {n : Nat} (h0 : 0 ≤ k) (h1 : k < n) : atE (List.replicate n v) k = v := by
  unfold atE
  rw [List.length_replicate, if_pos (by simp [insideE]; omega), List.getD_eq_getElem?_getD, List.getElem?_replicate, if_pos (by omega)]
  rfl
theorem inside_t {n : Nat} (h0 : 0 ≤ k) (h1 : k < n) : insideE k n = true := by simp [insideE]; omega
theorem inside_f {n : Nat} (h : k < 0 ∨ n ≤ k) : insideE k n = false := by
  unfold insideE
  rcases h with h | h
  · rw [show decide (0 ≤ k) = false by simp; omega, Bool.false_and]
  · rw [show decide (k < n) = false by simp; omega, Bool.and_false]
end
end Go.Proofs.Ytbmmemglkjeogaa.S20
