/- Cells: the cells of an array, joined. -/
import Derived.Test.YtoobaeebgnbpjaaB10
import Derived.Test.YtoobaeebgnbpjaaB12
import Derived.Test.YtoobaeebgnbpjaaB14
import Derived.Test.YtoobaeebgnbpjaaA10
namespace Go.Proofs.Ytoobaeebgnbpjaa.B15
open Go Go.Proofs.Ytoobaeebgnbpjaa.Eng Go.Proofs.Ytoobaeebgnbpjaa Go.RowKit Go.Proofs.Ytoobaeebgnbpjaa.A1 Go.Proofs.Ytoobaeebgnbpjaa.A2 Go.Proofs.Ytoobaeebgnbpjaa.A3 Go.Proofs.Ytoobaeebgnbpjaa.A4 Go.Proofs.Ytoobaeebgnbpjaa.A5 Go.Proofs.Ytoobaeebgnbpjaa.A8 Go.Proofs.Ytoobaeebgnbpjaa.A10 Go.Proofs.Ytoobaeebgnbpjaa.B1 Go.Proofs.Ytoobaeebgnbpjaa.B9 Go.Proofs.Ytoobaeebgnbpjaa.B10 Go.Proofs.Ytoobaeebgnbpjaa.B14
set_option linter.unusedSimpArgs false
set_option linter.unusedVariables false
set_option maxRecDepth 100000

theorem offE_kE : ∀ {fs is : List Int} {n m : Int}, offE fs is n = (m, 0) → kE fs is n = some m
  | f :: fs, i :: is, n, m, h => by
    rw [offE] at h
    rw [kE]
    split at h
    · simp at h
    · rw [if_neg (by assumption)]
      exact offE_kE h
  | [], is, n, m, h => by
    simp only [offE, Prod.mk.injEq, and_true] at h
    rw [h]; simp [kE]
  | f :: fs, [], n, m, h => by
    simp only [offE, Prod.mk.injEq, and_true] at h
    rw [h]; simp [kE]

theorem kE_place {fs : List Int} {n p : Int} (h : sizeE fs = (n, 0)) (h0 : 0 ≤ p) (h1 : p < n) : kE fs (idxR fs p).1 0 = some p ∧ (idxR fs p).1.length = fs.length := by
  obtain ⟨_, hin, _, ho⟩ := places h h0 h1
  refine ⟨offE_kE ?_, inR_len hin⟩
  unfold offsetE at ho
  rw [h, if_neg (by simp), if_neg (by simp [inR_len hin])] at ho
  exact ho

theorem joinD_all {e : ByteArray} {cs : List Int} : ∀ (l : List Ar) (acc : List Int), (∀ c ∈ l, c.1 = e ∧ c.2.1 = cs) → joinD e cs l acc = (acc ++ (l.map fun c => c.2.2).flatten, 0)
  | [], acc, _ => by simp [joinD]
  | c :: l, acc, h => by
    obtain ⟨h1, h2⟩ := h c (by simp)
    rw [joinD, h1, h2, if_neg (by simp), if_neg (by simp), joinD_all l _ fun c hc => h c (by simp [hc])]
    simp

/-- The first k cells. -/
def cellL (e : ByteArray) (cs xs : List Int) (p : Int) (k : Nat) : List Ar := (List.range k).map fun (i : Nat) => (e, cs, partE xs (i : Int) p)
theorem cellL_len (e : ByteArray) (cs xs : List Int) (p : Int) (k : Nat) : (cellL e cs xs p k).length = k := by simp [cellL]
theorem cellL_step (e : ByteArray) (cs xs : List Int) (p : Int) (k : Nat) : cellL e cs xs p (k + 1) = cellL e cs xs p k ++ [(e, cs, partE xs (k : Int) p)] := by simp [cellL, List.range_succ]

theorem partE_eq {xs : List Int} {i p : Nat} (h : i * p ≤ 16777216) : partE xs i p = (xs.drop (i * p)).take p := by
  unfold partE
  rw [← Int.natCast_mul, wrap_in (by omega) (by omega), Int.toNat_natCast, Int.toNat_natCast]

theorem cells_flat {e : ByteArray} {cs xs : List Int} {p : Nat} : ∀ (n : Nat), n * p ≤ 16777216 → ((cellL e cs xs p n).map fun c => c.2.2).flatten = xs.take (n * p)
  | 0, _ => by simp [cellL]
  | n + 1, h => by
    have h' : n * p ≤ 16777216 := Nat.le_trans (Nat.mul_le_mul_right p (Nat.le_succ n)) h
    rw [cellL_step, List.map_append, List.flatten_append, cells_flat n h']
    simp only [List.map_cons, List.map_nil, List.flatten_cons, List.flatten_nil, List.append_nil]
    rw [partE_eq h', Nat.succ_mul, List.take_add]

theorem prod_app : ∀ (xs ys : List Int), prod (xs ++ ys) = prod xs * prod ys
  | [], ys => by simp [prod]
  | x :: xs, ys => by simp only [List.cons_append, prod, prod_app xs ys, Int.mul_assoc]

theorem size_z {ds : List Int} {n : Int} (h : sizeE ds = (n, 0)) (hz : (0 : Int) ∈ ds) : n = 0 := by
  unfold sizeE at h
  split at h
  · simp at h
  split at h
  · simp at h
  rw [if_pos (List.any_eq_true.2 ⟨0, hz, by simp⟩)] at h
  simp only [Prod.mk.injEq] at h
  omega
theorem size_nz {ds : List Int} {n : Int} (h : sizeE ds = (n, 0)) (hz : (0 : Int) ∉ ds) : n = prod ds ∧ 1 ≤ n := by
  have h0 := h
  unfold sizeE at h
  split at h
  · simp at h
  split at h
  · simp at h
  rename_i hb
  have hb' : ds.any badDim = false := by simpa using hb
  rw [if_neg (by rw [List.any_eq_true]; rintro ⟨x, hx, he⟩; simp at he; subst he; exact hz hx)] at h
  have hf : fine ds := fun d hd => by
    have h1 := List.any_eq_false.1 hb' d hd
    have h2 : d ≠ 0 := fun e => hz (e ▸ hd)
    simp [badDim] at h1
    omega
  have := prodE_prod hb' hf (by omega) (by omega) h
  have h3 := prod_pos hf
  omega

theorem size_app {fs cs : List Int} {n p N : Int} (h1 : sizeE fs = (n, 0)) (h2 : sizeE cs = (p, 0)) (h3 : sizeE (fs ++ cs) = (N, 0)) : N = n * p := by
  by_cases hn : (0 : Int) ∈ fs
  · rw [size_z h1 hn, size_z h3 (by simp [hn]), Int.zero_mul]
  by_cases hp : (0 : Int) ∈ cs
  · rw [size_z h2 hp, size_z h3 (by simp [hp]), Int.mul_zero]
  rw [(size_nz h1 hn).1, (size_nz h2 hp).1, (size_nz h3 (by simp [hn, hp])).1, prod_app]

/-- The cell of the i-th index. -/
theorem cell_place {e : ByteArray} {ds xs fs cs : List Int} {r n p : Int} {i : Nat} (hs : splitE (e, ds, xs) r = ((fs, cs), 0)) (hn : sizeE fs = (n, 0)) (hp : sizeE cs = (p, 0)) (hi : (i : Int) < n) : cellE (e, ds, xs) r (idxR fs (i : Int)).1 = .tup [arr e cs (partE xs (i : Int) p), I 0] := by
  obtain ⟨hk, hl⟩ := kE_place hn (by omega) hi
  unfold cellE
  rw [hs, if_neg (by simp), if_neg (by simp [hl])]
  simp only [hk, hp, resR]

/-- The cells of a valid array, joined, are the array. -/
theorem join_cells {e : ByteArray} {ds xs fs cs ys : List Int} {r : Int} {n p : Nat} (hc : checkE e ds xs = 0) (hs : splitE (e, ds, xs) r = ((fs, cs), 0)) (hn : sizeE fs = ((n : Int), 0)) (hp : sizeE cs = ((p : Int), 0)) (hy : checkE e cs ys = 0) :
    joinE fs (cellL e cs xs p n) (e, cs, ys) = .tup [arr e ds xs, I 0] := by
  have hds : ds = fs ++ cs := by
    have h := (splitE_ok (e := e) (ds := ds) (xs := xs) (r := r) (by rw [hs])).2
    rw [hs] at h
    exact h
  obtain ⟨c1, c2, c3⟩ := checkE_ok hc
  have hN := size_app hn hp (by rw [← hds]; exact c2)
  have hb := sizeE_bound ds
  rw [c2] at hb
  have hN' : xs.length = n * p := by
    rw [← Int.natCast_mul] at hN
    exact Int.ofNat.inj hN
  have hsmall : n * p ≤ 16777216 := by simp only at hb; omega
  have hbad : (cellL e cs xs p n).any badA = false := by
    rw [List.any_eq_false]
    intro c hcm
    simp only [cellL, List.mem_map, List.mem_range] at hcm
    obtain ⟨i, hi, rfl⟩ := hcm
    have h1 : (i + 1) * p ≤ n * p := Nat.mul_le_mul_right p hi
    rw [Nat.succ_mul] at h1
    have hpe := partE_eq (xs := xs) (i := i) (p := p) (by omega)
    have hck : checkE e cs (partE xs i p) = 0 := checkE_mk c1 (by
      rw [hpe, List.length_take, List.length_drop, Nat.min_eq_left (by omega)]; exact hp) (by rw [hpe]; exact any_part c3)
    simp [badA, hck]
  have hj := joinD_all (e := e) (cs := cs) (cellL e cs xs p n) [] (fun c hcm => by
    simp only [cellL, List.mem_map, List.mem_range] at hcm
    obtain ⟨i, hi, rfl⟩ := hcm
    exact ⟨rfl, rfl⟩)
  rw [cells_flat n hsmall, List.nil_append, ← hN', List.take_length] at hj
  unfold joinE
  rw [if_neg (by rw [hbad]; simp [badA, hy]), if_neg (by rw [hn]; simp), if_neg (by rw [hn, cellL_len]; simp), if_neg (by rw [hj]; simp), if_neg (by rw [← hds, c2]; simp), hj]
  simp only
  rw [← hds, ofE, if_pos hc]
end Go.Proofs.Ytoobaeebgnbpjaa.B15
