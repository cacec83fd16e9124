/- Structure: results of single primitives, as lists. -/
import Derived.Test.YtbmmemglkjeogaaS14
namespace Go.Proofs.Ytbmmemglkjeogaa.S15
open Go Go.Proofs.Ytbmmemglkjeogaa.Eng Go.Proofs.Ytbmmemglkjeogaa Go.RowKit Go.Proofs.Ytbmmemglkjeogaa.A1 Go.Proofs.Ytbmmemglkjeogaa.A2 Go.Proofs.Ytbmmemglkjeogaa.A3 Go.Proofs.Ytbmmemglkjeogaa.A4 Go.Proofs.Ytbmmemglkjeogaa.A5 Go.Proofs.Ytbmmemglkjeogaa.S1 Go.Proofs.Ytbmmemglkjeogaa.S2 Go.Proofs.Ytbmmemglkjeogaa.S3 Go.Proofs.Ytbmmemglkjeogaa.S4 Go.Proofs.Ytbmmemglkjeogaa.S5 Go.Proofs.Ytbmmemglkjeogaa.S6 Go.Proofs.Ytbmmemglkjeogaa.S7 Go.Proofs.Ytbmmemglkjeogaa.S8 Go.Proofs.Ytbmmemglkjeogaa.S9 Go.Proofs.Ytbmmemglkjeogaa.S10 Go.Proofs.Ytbmmemglkjeogaa.S11 Go.Proofs.Ytbmmemglkjeogaa.S12 Go.Proofs.Ytbmmemglkjeogaa.S13 Go.Proofs.Ytbmmemglkjeogaa.S14
set_option linter.unusedSimpArgs false
set_option linter.unusedVariables false
set_option linter.unusedSectionVars false
set_option maxRecDepth 100000

theorem apE_run {e : ByteArray} {o : Op13} {zs : List Int} {num : Int} {l : List Ar} {out : List Int} {el : ByteArray} (ho : opOf e = some o) (h : Run o zs num l out) (hres : resE e (l.map (·.1)) = (el, true)) :
    apE e zs num l = ((el, out, gatherE out (elF o (szV zs num) l)), isNm e && !insideE (dt l 1 0) (dd l 0), 0) := by
  unfold apE
  rw [ho]
  simp only [h.form, h.val, h.rd, hres]
  simp
theorem doE_run {e : ByteArray} {o : Op13} {zs : List Int} {size : Int} {l : List Ar} {out : List Int} {el : ByteArray} (ho : opOf e = some o) (hz : zsE e size = zs) (h : Run o zs 0 l out) (hres : resE e (l.map (·.1)) = (el, true)) :
    doE e size l = (el, out, gatherE out (elF o (szV zs 0) l)) := by
  unfold doE
  rw [hz, apE_run ho h hres]
  simp
theorem rdE_mk {o : Op13} {zs : List Int} {num : Int} {L : List (List Int)} {out : List Int} (h1 : rankB o L 0 = true) (h2 : szE L = 0) (h3 : dm o (kOf o zs num L.length) L.flatten = (out, 0)) (h4 : (sizeE out).2 = 0) : rdE o zs num L = (out, 0) := by
  unfold rdE
  rw [if_neg (by simp [h1]), if_neg (by simp [h2]), h3, if_neg (by simp), if_neg (by simp [h4])]

/-- A list of numbers that may be elements. -/
def okL (a : List Int) : Prop := a.length ≤ 4096 ∧ ∀ z ∈ a, validE intB z = true
theorem any_no {e : ByteArray} {xs : List Int} (h : ∀ z ∈ xs, validE e z = true) : xs.any (fun n => !validE e n) = false := List.any_eq_false.2 fun z hz => by rw [h z hz]; simp
theorem no_any {e : ByteArray} {xs : List Int} (h : xs.any (fun n => !validE e n) = false) : ∀ z ∈ xs, validE e z = true := fun z hz => by simpa using List.any_eq_false.1 h z hz
theorem int_ok : (!isI intB && !isB intB) = false := by kernel_rfl
theorem bad_lst {a : List Int} (h : okL a) : badA (lst a) = false := by
  unfold badA
  have := checkE_mk (e := intB) (ds := [(a.length : Int)]) (xs := a) int_ok (size1d (by omega) (by have := h.1; omega)) (any_no h.2)
  simp [this]
theorem lst_ok {a : List Int} (h : badA (lst a) = false) : okL a := by
  obtain ⟨_, h2, h3⟩ := checkE_ok (good h)
  have := (size1d_inv h2).2.1
  exact ⟨by omega, no_any h3⟩
theorem bad_scl {n : Int} (h : validE intB n = true) : badA (scl n) = false := by
  unfold badA
  have := checkE_mk (e := intB) (ds := []) (xs := [n]) int_ok size0 (any_no fun z hz => by simp at hz; subst hz; exact h)
  simp [this]
theorem okL.app {a b : List Int} (ha : okL a) (hb : okL b) (h : a.length + b.length ≤ 4096) : okL (a ++ b) := ⟨by simpa using h, fun z hz => (List.mem_append.1 hz).elim (ha.2 z) (hb.2 z)⟩
theorem okL.take {a : List Int} (ha : okL a) (k : Nat) : okL (a.take k) := ⟨by have := ha.1; rw [List.length_take]; omega, fun z hz => ha.2 z (List.mem_of_mem_take hz)⟩
theorem okL.drop {a : List Int} (ha : okL a) (k : Nat) : okL (a.drop k) := ⟨by have := ha.1; rw [List.length_drop]; omega, fun z hz => ha.2 z (List.mem_of_mem_drop hz)⟩
theorem okL.rev {a : List Int} (ha : okL a) : okL a.reverse := ⟨by have := ha.1; simpa using this, fun z hz => ha.2 z (by simpa using hz)⟩

theorem pre_one (f : Int → Int → Int) : ∀ n : Nat, pre f 1 n = (List.range n).map fun (i : Nat) => f i 0
  | 0 => rfl
  | n + 1 => by
    rw [pre_succ, pre_one f n, List.range_succ, List.map_append]
    rfl
theorem gather1_eq {n : Int} {f : Int → Int → Int} {xs : List Int} (hl : (xs.length : Int) = n) (h : ∀ i : Nat, i < xs.length → f i 0 = xs.getD i 0) : gatherE [n] f = xs := by
  subst hl
  unfold gatherE pre
  simp only [rowsN, colsN, Int.toNat_natCast]
  apply List.ext_getElem?
  intro i
  have e1 := pre_one f xs.length
  unfold pre at e1
  rw [e1, List.getElem?_map]
  rcases Nat.lt_or_ge i xs.length with hlt | hge
  · rw [List.getElem?_range hlt, Option.map_some, h i hlt, List.getD_eq_getElem?_getD, List.getElem?_eq_getElem hlt]
    rfl
  · rw [List.getElem?_eq_none (by simpa using hge), List.getElem?_eq_none hge]
    rfl
theorem pre_get (f : Int → Int → Int) (c : Int) : ∀ (n x y : Nat), x < n → y < c.toNat → (pre f c n)[x * c.toNat + y]? = some (f x y)
  | 0, _, _, h, _ => by omega
  | n + 1, x, y, hx, hy => by
    rw [pre_succ]
    rcases Nat.lt_or_ge x n with h | h
    · rw [List.getElem?_append_left]
      · exact pre_get f c n x y h hy
      · rw [pre_len]
        have := Nat.mul_le_mul_right c.toNat (show x + 1 ≤ n by omega)
        rw [Nat.add_mul, Nat.one_mul] at this
        omega
    · obtain rfl : x = n := by omega
      rw [List.getElem?_append_right (by rw [pre_len]; omega), pre_len, Nat.add_sub_cancel_left, List.getElem?_map, List.getElem?_range hy]
      rfl
theorem gather2_get {r c : Int} {f : Int → Int → Int} {x y : Nat} (hx : (x : Int) < r) (hy : (y : Int) < c) : (gatherE [r, c] f).getD (x * c.toNat + y) 0 = f x y := by
  unfold gatherE
  simp only [rowsN, colsN]
  rw [List.getD_eq_getElem?_getD, pre_get f c _ x y (by omega) (by omega)]
  rfl
theorem gather2_len (r c : Int) (f : Int → Int → Int) : (gatherE [r, c] f).length = r.toNat * c.toNat := by
  unfold gatherE
  rw [pre_len]
  rfl
theorem gather2_eq {r c : Int} {f : Int → Int → Int} {xs : List Int} (hr : 0 ≤ r) (hc : 0 ≤ c) (hl : (xs.length : Int) = r * c) (h : ∀ x y : Nat, (x : Int) < r → (y : Int) < c → f x y = xs.getD (x * c.toNat + y) 0) : gatherE [r, c] f = xs := by
  have hlen : xs.length = r.toNat * c.toNat := by
    have := Int.toNat_mul hr hc
    rw [← hl] at this
    simpa using this
  apply List.ext_getElem?
  intro i
  rcases Nat.lt_or_ge i xs.length with hlt | hge
  · have hc0 : 0 < c.toNat := by
      rcases Nat.eq_zero_or_pos c.toNat with h0 | h0
      · rw [h0, Nat.mul_zero] at hlen; omega
      · exact h0
    have hx : i / c.toNat < r.toNat := by rw [Nat.div_lt_iff_lt_mul hc0]; omega
    have hy : i % c.toNat < c.toNat := Nat.mod_lt _ hc0
    have e1 : i / c.toNat * c.toNat + i % c.toNat = i := by rw [Nat.mul_comm]; exact Nat.div_add_mod i _
    have := h (i / c.toNat) (i % c.toNat) (by omega) (by omega)
    unfold gatherE
    simp only [rowsN, colsN]
    have hg := pre_get f c r.toNat (i / c.toNat) (i % c.toNat) hx hy
    rw [e1] at hg this
    rw [hg, this, List.getD_eq_getElem?_getD, List.getElem?_eq_getElem hlt]
    rfl
  · rw [List.getElem?_eq_none (by rw [gather2_len]; omega), List.getElem?_eq_none hge]

theorem getD_app (a b : List Int) (i : Nat) : (a ++ b).getD i 0 = if i < a.length then a.getD i 0 else b.getD (i - a.length) 0 := by
  rw [List.getD_eq_getElem?_getD, List.getElem?_append]
  split <;> rw [List.getD_eq_getElem?_getD]
theorem getD_take (a : List Int) {k i : Nat} (h : i < k) : (a.take k).getD i 0 = a.getD i 0 := by
  rw [List.getD_eq_getElem?_getD, List.getElem?_take, if_pos h, List.getD_eq_getElem?_getD]
theorem getD_drop (a : List Int) (k i : Nat) : (a.drop k).getD i 0 = a.getD (k + i) 0 := by
  rw [List.getD_eq_getElem?_getD, List.getElem?_drop, List.getD_eq_getElem?_getD]
theorem getD_rev (a : List Int) {i : Nat} (h : i < a.length) : a.reverse.getD i 0 = a.getD (a.length - 1 - i) 0 := by
  rw [List.getD_eq_getElem?_getD, List.getElem?_reverse h, List.getD_eq_getElem?_getD]

/-! The names. -/
abbrev n_iota : ByteArray := ⟨#[105, 111, 116, 97]⟩
abbrev n_fill : ByteArray := ⟨#[102, 105, 108, 108]⟩
abbrev n_take : ByteArray := ⟨#[116, 97, 107, 101]⟩
abbrev n_drop : ByteArray := ⟨#[100, 114, 111, 112]⟩
abbrev n_reverse : ByteArray := ⟨#[114, 101, 118, 101, 114, 115, 101]⟩
abbrev n_append : ByteArray := ⟨#[97, 112, 112, 101, 110, 100]⟩
abbrev n_transpose : ByteArray := ⟨#[116, 114, 97, 110, 115, 112, 111, 115, 101]⟩
abbrev n_diagonal : ByteArray := ⟨#[100, 105, 97, 103, 111, 110, 97, 108]⟩
abbrev n_chunk : ByteArray := ⟨#[99, 104, 117, 110, 107]⟩

theorem res_one {e t : ByteArray} {r : List Int} (h1 : rksE e 1 = (r, true)) (h2 : ((r.length : Int) == 0) = false) (h3 : badT t = false) : resE e [t] = (t, true) := by
  unfold resE
  simp only [List.length_cons, List.length_nil, Nat.zero_add, Int.natCast_one] at *
  rw [h1]
  simp only [List.any_cons, List.any_nil, h3, h2]
  have hr : resOk (isNm e) t [t] 0 = true := by simp [resOk]
  rw [hr]
  rfl
theorem badT_ok {e : ByteArray} {ds xs : List Int} (h : checkE e ds xs = 0) : badT e = false := (checkE_ok h).1

section
variable {a b : List Int}
theorem do_append (ha : okL a) (hb : okL b) (h : a.length + b.length ≤ 4096) : doE n_append 0 [lst a, lst b] = lst (a ++ b) := by
  have hrun : Run .append [] 0 [lst a, lst b] [((a ++ b).length : Int)] := by
    refine ⟨rfl, by simp [bad_lst ha, bad_lst hb], rdE_mk rfl ?_ ?_ ?_⟩
    · simp only [List.map_cons, List.map_nil, szE, size1d (show (0 : Int) ≤ a.length by omega) (by omega), size1d (show (0 : Int) ≤ b.length by omega) (by omega)]
      rfl
    · show ([W ((a.length : Int) + b.length)], (0 : Int)) = _
      rw [W, wrap_in (by omega) (by omega), List.length_append, Int.natCast_add]
    · rw [size1d (by omega) (by rw [List.length_append]; omega)]
  rw [doE_run (o := .append) (by kernel_rfl) (show zsE n_append 0 = [] by kernel_rfl) hrun (el := intB) (by kernel_rfl)]
  refine congrArg _ (congrArg _ (gather1_eq rfl fun i hi => ?_))
  show (if (i : Int) < (a.length : Int) then a.getD (i : Int).toNat 0 else b.getD ((i : Int) - a.length).toNat 0) = _
  rw [getD_app]
  by_cases h : i < a.length
  · rw [if_pos (by omega), if_pos h]; rfl
  · rw [if_neg (by omega), if_neg h, show ((i : Int) - a.length).toNat = i - a.length by omega]
theorem do_take {k : Int} (ha : okL a) (h0 : 0 ≤ k) (h1 : k ≤ a.length) : doE n_take k [lst a] = lst (a.take k.toNat) := by
  have hl : ((a.take k.toNat).length : Int) = k := by rw [List.length_take]; omega
  have h4 := ha.1
  have hrun : Run .take [k] 0 [lst a] [((a.take k.toNat).length : Int)] := by
    refine ⟨rfl, by simp [bad_lst ha], rdE_mk rfl ?_ ?_ ?_⟩
    · simp only [List.map_cons, List.map_nil, szE, size1d (show (0 : Int) ≤ a.length by omega) (by omega)]
      rfl
    · show wi k a.length [k] = _
      unfold wi
      rw [if_neg (by omega), hl]
    · rw [hl, size1d (by omega) (by omega)]
  rw [doE_run (o := .take) (by kernel_rfl) (show zsE n_take k = [k] by unfold zsE; rw [show sizedB n_take = true by kernel_rfl]; rfl) hrun (el := intB) (by kernel_rfl)]
  refine congrArg _ (congrArg _ (gather1_eq rfl fun i hi => ?_))
  show a.getD (i : Int).toNat 0 = _
  rw [getD_take a (by omega)]
  rfl
theorem do_drop {k : Int} (ha : okL a) (h0 : 0 ≤ k) (h1 : k ≤ a.length) : doE n_drop k [lst a] = lst (a.drop k.toNat) := by
  have hl : ((a.drop k.toNat).length : Int) = a.length - k := by rw [List.length_drop]; omega
  have h4 := ha.1
  have hrun : Run .drop [k] 0 [lst a] [((a.drop k.toNat).length : Int)] := by
    refine ⟨rfl, by simp [bad_lst ha], rdE_mk rfl ?_ ?_ ?_⟩
    · simp only [List.map_cons, List.map_nil, szE, size1d (show (0 : Int) ≤ a.length by omega) (by omega)]
      rfl
    · show wi k a.length [W ((a.length : Int) - k)] = _
      unfold wi
      rw [if_neg (by omega), hl, W, wrap_in (by omega) (by omega)]
    · rw [hl, size1d (by omega) (by omega)]
  rw [doE_run (o := .drop) (by kernel_rfl) (show zsE n_drop k = [k] by unfold zsE; rw [show sizedB n_drop = true by kernel_rfl]; rfl) hrun (el := intB) (by kernel_rfl)]
  refine congrArg _ (congrArg _ (gather1_eq rfl fun i hi => ?_))
  show a.getD ((i : Int) + k).toNat 0 = _
  rw [getD_drop, show ((i : Int) + k).toNat = k.toNat + i by omega]
theorem do_reverse (ha : okL a) : doE n_reverse 0 [lst a] = lst a.reverse := by
  have h4 := ha.1
  have hrun : Run .reverse [] 0 [lst a] [(a.reverse.length : Int)] := by
    refine ⟨rfl, by simp [bad_lst ha], rdE_mk rfl ?_ ?_ ?_⟩
    · simp only [List.map_cons, List.map_nil, szE, size1d (show (0 : Int) ≤ a.length by omega) (by omega)]
      rfl
    · show ([(a.length : Int)], (0 : Int)) = _
      rw [List.length_reverse]
    · rw [List.length_reverse, size1d (by omega) (by omega)]
  rw [doE_run (o := .reverse) (by kernel_rfl) (show zsE n_reverse 0 = [] by kernel_rfl) hrun (el := intB) (by kernel_rfl)]
  refine congrArg _ (congrArg _ (gather1_eq rfl fun i hi => ?_))
  rw [List.length_reverse] at hi
  show a.getD ((a.length : Int) - 1 - i).toNat 0 = _
  rw [getD_rev a hi, show ((a.length : Int) - 1 - i).toNat = a.length - 1 - i by omega]
end
end Go.Proofs.Ytbmmemglkjeogaa.S15
