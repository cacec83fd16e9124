/- Structure: the law of matrices. -/
import Derived.Test.YtbmmemglkjeogaaS15
namespace Go.Proofs.Ytbmmemglkjeogaa.S16
open Go Go.Proofs.Ytbmmemglkjeogaa.Eng Go.Proofs.Ytbmmemglkjeogaa Go.RowKit Go.Proofs.Ytbmmemglkjeogaa.A1 Go.Proofs.Ytbmmemglkjeogaa.A2 Go.Proofs.Ytbmmemglkjeogaa.A3 Go.Proofs.Ytbmmemglkjeogaa.A4 Go.Proofs.Ytbmmemglkjeogaa.A5 Go.Proofs.Ytbmmemglkjeogaa.S1 Go.Proofs.Ytbmmemglkjeogaa.S2 Go.Proofs.Ytbmmemglkjeogaa.S3 Go.Proofs.Ytbmmemglkjeogaa.S4 Go.Proofs.Ytbmmemglkjeogaa.S5 Go.Proofs.Ytbmmemglkjeogaa.S6 Go.Proofs.Ytbmmemglkjeogaa.S7 Go.Proofs.Ytbmmemglkjeogaa.S8 Go.Proofs.Ytbmmemglkjeogaa.S9 Go.Proofs.Ytbmmemglkjeogaa.S10 Go.Proofs.Ytbmmemglkjeogaa.S11 Go.Proofs.Ytbmmemglkjeogaa.S12 Go.Proofs.Ytbmmemglkjeogaa.S13 Go.Proofs.Ytbmmemglkjeogaa.S14 Go.Proofs.Ytbmmemglkjeogaa.S15
set_option linter.unusedSimpArgs false
set_option linter.unusedVariables false
set_option linter.unusedSectionVars false
set_option maxRecDepth 100000

def tr (r c : Int) (xs : List Int) : List Int := gatherE [c, r] fun x y => xs.getD (y * c + x).toNat 0
def dg (r : Int) (xs : List Int) : List Int := gatherE [r] fun x _ => xs.getD (x * r + x).toNat 0

section
variable {e : ByteArray} {r c : Int} {xs : List Int}
theorem bad_of (h : checkE e [r, c] xs = 0) : badA (e, [r, c], xs) = false := by unfold badA; simp [h]
theorem run_transpose (h : checkE e [r, c] xs = 0) : Run .transpose [] 0 [(e, [r, c], xs)] [c, r] := by
  obtain ⟨_, h2, _⟩ := checkE_ok h
  obtain ⟨r0, r1, c0, c1, h3, h4⟩ := size2d_inv h2
  refine ⟨rfl, by simp [bad_of h], rdE_mk rfl ?_ rfl ?_⟩
  · simp only [List.map_cons, List.map_nil, szE, h2]
    rfl
  · rw [size2d c0 c1 r0 r1 (by rw [Int.mul_comm]; exact h4)]
theorem do_transpose (h : checkE e [r, c] xs = 0) : doE n_transpose 0 [(e, [r, c], xs)] = (e, [c, r], tr r c xs) :=
  doE_run (o := .transpose) (by kernel_rfl) (show zsE n_transpose 0 = [] by kernel_rfl) (run_transpose h) (res_one (r := [2]) (by kernel_rfl) rfl (badT_ok h))
theorem tr_check (h : checkE e [r, c] xs = 0) : checkE e [c, r] (tr r c xs) = 0 :=
  run_ok (e := n_transpose) (o := .transpose) (zs := []) (num := 0) (l := [(e, [r, c], xs)]) (by kernel_rfl) (run_transpose h) (res_one (r := [2]) (by kernel_rfl) rfl (badT_ok h))
theorem tr_get (h : checkE e [r, c] xs = 0) {x y : Nat} (hx : (x : Int) < c) (hy : (y : Int) < r) : (tr r c xs).getD (x * r.toNat + y) 0 = xs.getD (y * c.toNat + x) 0 := by
  obtain ⟨_, h2, _⟩ := checkE_ok h
  obtain ⟨r0, r1, c0, c1, h3, h4⟩ := size2d_inv h2
  unfold tr
  rw [gather2_get hx hy]
  congr 1
  have : ((y * c.toNat + x : Nat) : Int) = (y : Int) * c + x := by rw [Int.natCast_add, Int.natCast_mul, Int.toNat_of_nonneg c0]
  omega
theorem tr_tr (h : checkE e [r, c] xs = 0) : tr c r (tr r c xs) = xs := by
  obtain ⟨_, h2, _⟩ := checkE_ok h
  obtain ⟨r0, r1, c0, c1, h3, h4⟩ := size2d_inv h2
  rw [tr]
  refine gather2_eq r0 c0 h3 fun x y hx hy => ?_
  have h5 := tr_get h (x := y) (y := x) hy hx
  rw [← h5]
  congr 1
  have : ((y * r.toNat + x : Nat) : Int) = (y : Int) * r + x := by rw [Int.natCast_add, Int.natCast_mul, Int.toNat_of_nonneg r0]
  omega
theorem tr_len (h : checkE e [r, c] xs = 0) : ((tr r c xs).length : Int) = c * r := by
  obtain ⟨_, h2, _⟩ := checkE_ok (tr_check h)
  exact (size2d_inv h2).2.2.2.2.1
theorem run_diagonal (h : checkE e [r, r] xs = 0) : Run .diagonal [] 0 [(e, [r, r], xs)] [r] := by
  obtain ⟨_, h2, _⟩ := checkE_ok h
  obtain ⟨r0, r1, c0, c1, h3, h4⟩ := size2d_inv h2
  refine ⟨rfl, by simp [bad_of h], rdE_mk rfl ?_ ?_ ?_⟩
  · simp only [List.map_cons, List.map_nil, szE, h2]
    rfl
  · show (if r ≠ r then ([], (14 : Int)) else ([r], 0)) = _
    rw [if_neg (by simp)]
  · rw [size1d r0 r1]
theorem do_diagonal (h : checkE e [r, r] xs = 0) : doE n_diagonal 0 [(e, [r, r], xs)] = (e, [r], dg r xs) :=
  doE_run (o := .diagonal) (by kernel_rfl) (show zsE n_diagonal 0 = [] by kernel_rfl) (run_diagonal h) (res_one (r := [2]) (by kernel_rfl) rfl (badT_ok h))
theorem dg_check (h : checkE e [r, r] xs = 0) : checkE e [r] (dg r xs) = 0 :=
  run_ok (e := n_diagonal) (o := .diagonal) (zs := []) (num := 0) (l := [(e, [r, r], xs)]) (by kernel_rfl) (run_diagonal h) (res_one (r := [2]) (by kernel_rfl) rfl (badT_ok h))
theorem dg_len (h : checkE e [r, r] xs = 0) : ((dg r xs).length : Int) = r := by
  obtain ⟨_, h2, _⟩ := checkE_ok (dg_check h)
  exact (size1d_inv h2).2.2
theorem gather1_get {n : Int} {f : Int → Int → Int} {x : Nat} (hx : (x : Int) < n) : (gatherE [n] f).getD x 0 = f x 0 := by
  unfold gatherE
  simp only [rowsN, colsN]
  have := pre_get f 1 n.toNat x 0 (by omega) (by decide)
  rw [show x * (1 : Int).toNat + 0 = x by simp] at this
  rw [List.getD_eq_getElem?_getD, this]
  rfl
theorem dg_get (h : checkE e [r, r] xs = 0) {x : Nat} (hx : (x : Int) < r) : (dg r xs).getD x 0 = xs.getD (x * r.toNat + x) 0 := by
  obtain ⟨_, h2, _⟩ := checkE_ok h
  obtain ⟨r0, r1, c0, c1, h3, h4⟩ := size2d_inv h2
  unfold dg
  rw [gather1_get hx]
  congr 1
  have : ((x * r.toNat + x : Nat) : Int) = (x : Int) * r + x := by rw [Int.natCast_add, Int.natCast_mul, Int.toNat_of_nonneg r0]
  omega
theorem dg_tr (h : checkE e [r, r] xs = 0) : dg r (tr r r xs) = dg r xs := by
  have hl := dg_len h
  rw [dg]
  refine gather1_eq hl fun i hi => ?_
  have hi' : (i : Int) < r := by omega
  rw [dg_get h hi']
  have h5 := tr_get h (x := i) (y := i) hi' hi'
  rw [← h5]
  obtain ⟨_, h2, _⟩ := checkE_ok h
  obtain ⟨r0, _⟩ := size2d_inv h2
  congr 1
  have : ((i * r.toNat + i : Nat) : Int) = (i : Int) * r + i := by rw [Int.natCast_add, Int.natCast_mul, Int.toNat_of_nonneg r0]
  omega
theorem ap_skew (h : checkE e [r, c] xs = 0) (hn : r ≠ c) : apE n_diagonal [] 0 [(e, [r, c], xs)] = ((⟨#[]⟩, [], []), false, 14) := by
  obtain ⟨_, h2, _⟩ := checkE_ok h
  have ho : opOf n_diagonal = some .diagonal := by kernel_rfl
  have hf : formB .diagonal 0 1 0 = true := rfl
  have hres : resE n_diagonal [e] = (e, true) := res_one (r := [2]) (by kernel_rfl) rfl (badT_ok h)
  have hrd : rdE .diagonal [] 0 [[r, c]] = ([], 14) := by
    unfold rdE
    have hz : szE [[r, c]] = 0 := by
      simp only [szE, h2]
      rfl
    have hd : dm .diagonal (kOf .diagonal [] 0 1) [r, c] = ([], 14) := by
      show (if r ≠ c then ([], (14 : Int)) else ([r], 0)) = _
      rw [if_pos hn]
    rw [if_neg (by simp [show rankB .diagonal [[r, c]] 0 = true from rfl]), if_neg (by simp [hz])]
    simp only [List.length_cons, List.length_nil, Nat.zero_add, List.flatten_cons, List.flatten_nil, List.append_nil, hd]
    rfl
  unfold apE
  rw [ho]
  simp only [List.length_cons, List.length_nil, Nat.zero_add, hf, List.map_cons, List.map_nil, hres, hrd, List.any_cons, List.any_nil, bad_of h]
  simp
end
end Go.Proofs.Ytbmmemglkjeogaa.S16
