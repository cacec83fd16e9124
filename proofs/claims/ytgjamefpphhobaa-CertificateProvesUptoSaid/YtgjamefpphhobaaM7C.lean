/- Sums of the program, and that they are those of the reference. -/
import Derived.Test.YtgjamefpphhobaaM7B
import Derived.Test.YtgjamefpphhobaaBits
namespace Go.Proofs.Ytgjamefpphhobaa.M7C
open Go Go.Proofs.Ytgjamefpphhobaa.Eng Go.Proofs.Ytgjamefpphhobaa Go.RowKit Go.Proofs.Ytgjamefpphhobaa.LM Go.Proofs.Ytgjamefpphhobaa.PK Go.Proofs.Ytgjamefpphhobaa.D7P Go.Proofs.Ytgjamefpphhobaa.D7R Go.Proofs.Ytgjamefpphhobaa.M7A Go.Proofs.Ytgjamefpphhobaa.M7B
set_option linter.unusedSimpArgs false
set_option linter.unusedVariables false
set_option linter.unusedSectionVars false
set_option maxRecDepth 100000

abbrev Mp := List (ByteArray × (Int × Int))
def tv (t : Int × Int) : Int := t.1 * 1099511627776 + t.2
def nrm (B : Int) (t : Int × Int) : Prop := 0 ≤ t.2 ∧ t.2 < 1099511627776 ∧ -B ≤ tv t ∧ tv t ≤ B
def addP (t : Int × Int) (n : Int) : Int × Int := (W (t.1 + (W (n + t.2)).fdiv ((2 : Int) ^ min 40 (IntKind.bits .i64))), bits .and .i64 (W (n + t.2)) 1099511627775)
theorem tadd (t : Int × Int) (n : Int) : certificate_total_add t n = some (addP t n) := rfl
theorem and40 (n : Int) : bits .and .i64 n 1099511627775 = n % 1099511627776 := Bits.i64_mask 40 (by omega) n
theorem addP_is {B : Int} {t : Int × Int} {n : Int} (h : nrm B t) (hB : B ≤ 4000000000000000000) (hn : -1000000000000000 ≤ n ∧ n ≤ 1000000000000000) : nrm (B + 1000000000000000) (addP t n) ∧ tv (addP t n) = tv t + n := by
  obtain ⟨a, l⟩ := t
  obtain ⟨h1, h2, h3, h4⟩ := h
  unfold tv at h3 h4
  simp only at h1 h2 h3 h4
  have e1 : W (n + l) = n + l := wrap_in (by omega) (by omega)
  have e2 : ((2 : Int) ^ min 40 (IntKind.bits .i64)) = 1099511627776 := by decide
  have e3 : (n + l).fdiv 1099511627776 = (n + l) / 1099511627776 := Int.fdiv_eq_ediv_of_nonneg _ (by decide)
  have e4 : W (a + (n + l) / 1099511627776) = a + (n + l) / 1099511627776 := wrap_in (by omega) (by omega)
  unfold addP nrm tv
  simp only [e1, e2, e3, e4, and40]
  omega
theorem nrm0 {B : Int} (h : 0 ≤ B) : nrm B (0, 0) := by unfold nrm tv; simp; omega
theorem nrm.mono {B B' : Int} {t : Int × Int} (h : nrm B t) (hb : B ≤ B') : nrm B' t := by unfold nrm at *; omega

def A (m : Mp) : List Tm := m.map fun p => (p.1, tv p.2)
theorem mapG_A (v : ByteArray) : ∀ m : Mp, tv ((mapG v m).getD (0, 0)) = aget v (A m)
  | [] => rfl
  | p :: r => by
    simp only [mapG, A, List.map_cons, aget]
    by_cases h : p.1 = v
    · rw [if_pos (eqB_iff.2 h), if_pos h]; rfl
    · rw [if_neg (fun e => h (eqB_iff.1 e)), if_neg h]; exact mapG_A v r
theorem mapP_A (v : ByteArray) (x : Int × Int) : ∀ m : Mp, A (mapP v x m) = aput v (tv x) (A m)
  | [] => rfl
  | p :: r => by
    simp only [mapP, A, List.map_cons, aput]
    by_cases h : p.1 = v
    · rw [if_pos (eqB_iff.2 h), if_pos h]; rfl
    · rw [if_neg (fun e => h (eqB_iff.1 e)), if_neg h, List.map_cons]
      exact congrArg (List.cons (p.1, tv p.2)) (mapP_A v x r)
theorem mapG_nrm {B : Int} (hB : 0 ≤ B) (v : ByteArray) : ∀ {m : Mp}, (∀ p ∈ m, nrm B p.2) → nrm B ((mapG v m).getD (0, 0))
  | [], _ => nrm0 hB
  | p :: r, h => by
    simp only [mapG]
    split
    · exact h p (by simp)
    · exact mapG_nrm hB v fun q hq => h q (by simp [hq])
theorem mapP_nrm {B : Int} {v : ByteArray} {x : Int × Int} (hx : nrm B x) : ∀ {m : Mp}, (∀ p ∈ m, nrm B p.2) → ∀ p ∈ mapP v x m, nrm B p.2
  | [], _ => by simpa [mapP] using hx
  | p :: r, h => by
    simp only [mapP]
    split
    · intro q hq
      rcases List.mem_cons.1 hq with rfl | hq
      · exact hx
      · exact h q (by simp [hq])
    · intro q hq
      rcases List.mem_cons.1 hq with rfl | hq
      · exact h q (by simp)
      · exact mapP_nrm hx (fun q hq => h q (by simp [hq])) q hq
def addM (k : Int) : List Tm → Mp → Mp
  | [], m => m
  | t :: r, m => addM k r (mapP t.1 (addP ((mapG t.1 m).getD (0, 0)) (W (k * t.2))) m)
theorem mul_b {k c : Int} (hk : -1000000000 ≤ k ∧ k ≤ 1000000000) (hc : fitsI c = true) : -1000000000000000 ≤ k * c ∧ k * c ≤ 1000000000000000 := by
  have hc := fits_b hc
  have h1 : (k * c).natAbs ≤ 1000000000 * 1000000 := by
    rw [Int.natAbs_mul]
    exact Nat.mul_le_mul (by omega) (by omega)
  omega
theorem addM_is {k : Int} (hk : -1000000000 ≤ k ∧ k ≤ 1000000000) : ∀ (ts : List Tm) {B : Int} {m : Mp}, (∀ p ∈ m, nrm B p.2) → 0 ≤ B → B + 1000000000000000 * ts.length ≤ 4000000000000000000 → (∀ t ∈ ts, fitsI t.2 = true) → A (addM k ts m) = addT k ts (A m) ∧ ∀ p ∈ addM k ts m, nrm (B + 1000000000000000 * ts.length) p.2
  | [], B, m, h, _, _, _ => ⟨rfl, fun p hp => (h p hp).mono (by simp)⟩
  | t :: r, B, m, h, h0, hb, hf => by
    rw [List.length_cons] at hb ⊢
    push_cast at hb ⊢
    have hb1 := mul_b hk (hf t (by simp))
    have hw : W (k * t.2) = k * t.2 := wrap_in (by omega) (by omega)
    obtain ⟨n1, n2⟩ := addP_is (n := k * t.2) (mapG_nrm h0 t.1 h) (by omega) hb1
    obtain ⟨i1, i2⟩ := addM_is hk r (B := B + 1000000000000000) (m := mapP t.1 (addP ((mapG t.1 m).getD (0, 0)) (k * t.2)) m) (mapP_nrm n1 fun p hp => (h p hp).mono (by omega)) (by omega) (by omega) (fun u hu => hf u (by simp [hu]))
    have n3 := n2
    rw [mapG_A] at n3
    refine ⟨?_, fun p hp => ?_⟩
    · rw [addM, hw, i1, mapP_A, n3, addT, hw, show W (aget t.1 (A m) + k * t.2) = aget t.1 (A m) + k * t.2 from ?_]
      rw [← n3]
      obtain ⟨_, _, q1, q2⟩ := n1
      exact wrap_in (by omega) (by omega)
    · rw [addM, hw] at hp
      exact (i2 p hp).mono (by omega)
theorem addM_len (k : Int) (ts : List Tm) (m : Mp) (h : A (addM k ts m) = addT k ts (A m)) : (addM k ts m).length ≤ m.length + ts.length := by
  have e : (A (addM k ts m)).length = (addM k ts m).length := by simp [A]
  have := addT_len k ts (A m)
  rw [← h, e] at this
  simpa [A] using this

/-- The state behind some facts. -/
def acc : List Fc → List Int → Int × Int × Mp → Int × Int × Mp
  | f :: fs, k :: ks, s => acc fs ks ((addP (s.1, s.2.1) (W (k * f.2.1))).1, (addP (s.1, s.2.1) (W (k * f.2.1))).2, addM k f.2.2 s.2.2)
  | _, _, s => s
/-- What is known of it: so many sums were made. -/
structure Good (j : Nat) (s : Int × Int × Mp) (l : Int × List Tm) : Prop where
  c : nrm (1000000000000000 * j) (s.1, s.2.1)
  nr : ∀ p ∈ s.2.2, nrm (1000000000000000 * j) p.2
  kd : keysD (A s.2.2)
  sz : ∀ t ∈ A s.2.2, t.1.size ≤ 1000000
  ln : s.2.2.length ≤ j
  lc : l.1 = tv (s.1, s.2.1)
  ls : sortedT l.2
  lg : ∀ v, aget v l.2 = aget v (A s.2.2)
theorem name_size {s : ByteArray} (h : nameE s = true) : s.size ≤ 30 := by
  rw [← bs_size]
  unfold nameE nameL at h
  split at h
  · simp only [Bool.and_eq_true, decide_eq_true_eq] at h; omega
  · simp only [Bool.and_eq_true, decide_eq_true_eq] at h; omega
theorem aget_nrm {B : Int} (hB : 0 ≤ B) (m : Mp) (h : ∀ p ∈ m, nrm B p.2) (v : ByteArray) : -B ≤ aget v (A m) ∧ aget v (A m) ≤ B := by
  rw [← mapG_A]
  obtain ⟨_, _, h1, h2⟩ := mapG_nrm hB v h
  exact ⟨h1, h2⟩
theorem good_step {j : Nat} {s : Int × Int × Mp} {l : Int × List Tm} (h : Good j s l) (hj : j ≤ 3900) {f : Fc} {k : Int} (hv : validE f.2.1 f.2.2 = true) (hk : -1000000000 ≤ k ∧ k ≤ 1000000000) :
    Good (j + 13) ((addP (s.1, s.2.1) (W (k * f.2.1))).1, (addP (s.1, s.2.1) (W (k * f.2.1))).2, addM k f.2.2 s.2.2) (if k = 0 then l else timesE l f.2 k) := by
  obtain ⟨v1, v2, v3, v4⟩ := valid_parts hv
  have b1 := mul_b hk v1
  have hw : W (k * f.2.1) = k * f.2.1 := wrap_in (by omega) (by omega)
  rw [hw]
  obtain ⟨p1, p2⟩ := addP_is (n := k * f.2.1) h.c (by omega) b1
  have hl : (f.2.2.length : Int) ≤ 12 := by omega
  obtain ⟨m1, m2⟩ := addM_is hk f.2.2 h.nr (by omega) (by omega) fun t ht => (v4 t ht).1
  have hlen := addM_len k f.2.2 s.2.2 m1
  have hcv : -(1000000000000000 * (j : Int)) ≤ tv (s.1, s.2.1) ∧ tv (s.1, s.2.1) ≤ 1000000000000000 * (j : Int) := ⟨h.c.2.2.1, h.c.2.2.2⟩
  refine ⟨p1.mono (by push_cast; omega), fun p hp => (m2 p hp).mono (by push_cast; omega), ?_, ?_, ?_, ?_, ?_, ?_⟩
  · show keysD (A (addM k f.2.2 s.2.2))
    rw [m1]; exact addT_d k f.2.2 h.kd
  · show ∀ t ∈ A (addM k f.2.2 s.2.2), _
    rw [m1]
    exact addT_mem (P := fun v => v.size ≤ 1000000) k f.2.2 (fun t ht => by have := name_size (v4 t ht).2; omega) h.sz
  · show (addM k f.2.2 s.2.2).length ≤ _
    have := h.ln
    omega
  · show _ = tv (addP (s.1, s.2.1) (k * f.2.1))
    rw [p2]
    by_cases h0 : k = 0
    · rw [if_pos h0, h.lc, h0, Int.zero_mul, Int.add_zero]
    · rw [if_neg h0]
      show W (l.1 + W (k * f.2.1)) = _
      rw [hw, h.lc]
      exact wrap_in (by omega) (by omega)
  · by_cases h0 : k = 0
    · rw [if_pos h0]; exact h.ls
    · rw [if_neg h0]; exact times_S k h.ls
  · intro v
    show _ = aget v (A (addM k f.2.2 s.2.2))
    rw [m1]
    by_cases h0 : k = 0
    · have hb := aget_nrm (B := 1000000000000000 * (j : Int)) (by omega) s.2.2 h.nr v
      have hW : W (aget v (A s.2.2)) = aget v (A s.2.2) := wrap_in (by omega) (by omega)
      rw [if_pos h0, h.lg, addT_get k v f.2.2 v3 hW, h0, Int.zero_mul, show W 0 = 0 from rfl, Int.add_zero, hW]
    · rw [if_neg h0]
      exact (times_get k f.2.2 h.ls h.lg).2 v
theorem good_0 : Good 0 (0, 0, []) (0, []) := ⟨nrm0 (by simp), by simp, by simp [keysD, A], by simp [A], by simp, rfl, trivial, fun _ => rfl⟩
theorem good_acc : ∀ (fs : List Fc) (ks : List Int) {j : Nat} {s : Int × Int × Mp} {l : Int × List Tm}, Good j s l → j + 13 * fs.length ≤ 3900 → valids fs → oks fs ks = true → ∃ i, i ≤ j + 13 * fs.length ∧ Good i (acc fs ks s) (comb fs ks l)
  | [], ks, j, s, l, h, _, _, _ => ⟨j, by simp, by cases ks <;> exact h⟩
  | f :: fs, [], j, s, l, h, _, _, _ => ⟨j, by omega, h⟩
  | f :: fs, k :: ks, j, s, l, h, hj, hv, ho => by
    rw [oks, okM] at ho
    simp only [Bool.and_eq_true, decide_eq_true_eq] at ho
    rw [List.length_cons] at hj ⊢
    obtain ⟨i, h1, h2⟩ := good_acc fs ks (good_step h (by omega) (hv f (by simp)) ⟨ho.1.1, ho.1.2.1⟩) (by omega) (fun g hg => hv g (by simp [hg])) ho.2
    exact ⟨i, by omega, h2⟩

theorem num_is {B : Int} {t : Int × Int} (h : nrm B t) (hB : B ≤ 4000000000000000000) : certificate_total_number t = some (tv t, true) := by
  obtain ⟨a, l⟩ := t
  obtain ⟨h1, h2, h3, h4⟩ := h
  unfold tv at *
  simp only at h1 h2 h3 h4
  have e2 : ((2 : Int) ^ min 40 (IntKind.bits .i64)) = 1099511627776 := by decide
  have c1 : decide ((-4194304 : Int) ≤ a) = true := decide_eq_true (by omega)
  have c2 : decide (a < (4194304 : Int)) = true := decide_eq_true (by omega)
  have e3 : IntKind.i64.wrap (a * 1099511627776) = a * 1099511627776 := wrap_in (by omega) (by omega)
  have e4 : IntKind.i64.wrap (a * 1099511627776 + l) = a * 1099511627776 + l := wrap_in (by omega) (by omega)
  unfold certificate_total_number
  simp only [c1, if_true, e2, c2, e3, e4]
theorem keys_is (m : Mp) : mapKeys m = sortK (A m) := by
  unfold mapKeys sortK A
  rw [Go.Proofs.Ytgjamefpphhobaa.Eng.mergeSort_isort, List.map_map]
  rfl
theorem lin_is (m : Mp) {l : List Tm} (hk : keysD (A m)) (hs : sortedT l) (hg : ∀ v, aget v l = aget v (A m)) : linT (A m) = l :=
  sorted_same (linT_sorted hk) hs fun v => by rw [linT_get, hg]
theorem p_inner {R : Type} (k : Int) (ts : List Tm) (m : Mp) (hl : ts.length ≤ 1000) : (forC (R := R) (ts.length) (m : (List (ByteArray × (Int × Int)))) fun k519 s518 =>
    (ts[k519]?).bind fun x527 =>
    (certificate_total_add (((mapG x527.1 s518).getD ((0 : Int), (0 : Int))).1, ((mapG x527.1 s518).getD ((0 : Int), (0 : Int))).2) (IntKind.i64.wrap (k * x527.2))).bind fun y531 =>
    some (.nx (mapP x527.1 y531 s518))) = some (.inl (addM k ts m)) := by
  rw [forC_fold (by omega) (fun m t => mapP t.1 (addP ((mapG t.1 m).getD (0, 0)) (W (k * t.2))) m) (fun _ => True) trivial (fun i m t ht _ => by simp only [ht, bind_s, tadd]) (fun _ _ _ _ => trivial)]
  congr 2
  clear hl
  induction ts generalizing m with
  | nil => rfl
  | cons t r ih => exact ih _
theorem p_out {R : Type} {j : Nat} (m : Mp) (hn : ∀ p ∈ m, nrm (1000000000000000 * j) p.2) (hj : j ≤ 3900) (hl : m.length ≤ 3900) : (forC (R := R) (((mapKeys m).length)) (([], true) : (List (ByteArray × Int)) × Bool) fun k619 s618 =>
        ((mapKeys m)[k619]?).bind fun x627 =>
        (certificate_total_number (((mapG x627 m).getD ((0 : Int), (0 : Int))).1, ((mapG x627 m).getD ((0 : Int), (0 : Int))).2)).bind fun y631 =>
        if s618.2 then
          if (y631.1 != (0 : Int)) then
            iffO (decide ((s618.1.length + 1) * 24 ≤ 140737488355328))
              (some (.nx ((s618.1 ++ [(x627, y631.1)]), y631.2)))
          else
            if y631.2 then
              some (.nx (s618.1, true))
            else
              iffO (decide ((s618.1.length + 1) * 24 ≤ 140737488355328))
                (some (.nx ((s618.1 ++ [(x627, y631.1)]), false)))
        else
          if (y631.1 != (0 : Int)) then
            iffO (decide ((s618.1.length + 1) * 24 ≤ 140737488355328))
              (some (.nx ((s618.1 ++ [(x627, y631.1)]), false)))
          else
            if y631.2 then
              some (.nx (s618.1, false))
            else
              iffO (decide ((s618.1.length + 1) * 24 ≤ 140737488355328))
                (some (.nx ((s618.1 ++ [(x627, y631.1)]), false)))) = some (.inl (linT (A m), true)) := by
  have hK : (mapKeys m).length ≤ 3900 := by rw [keys_is, sortK_len]; simpa [A] using hl
  obtain ⟨⟨o, b⟩, h1, h2, h3⟩ := forC_inv (n := (mapKeys m).length) (s := (([], true) : (List (ByteArray × Int)) × Bool)) (R := R) (f := fun k619 s618 =>
        ((mapKeys m)[k619]?).bind fun x627 =>
        (certificate_total_number (((mapG x627 m).getD ((0 : Int), (0 : Int))).1, ((mapG x627 m).getD ((0 : Int), (0 : Int))).2)).bind fun y631 =>
        if s618.2 then
          if (y631.1 != (0 : Int)) then
            iffO (decide ((s618.1.length + 1) * 24 ≤ 140737488355328))
              (some (.nx ((s618.1 ++ [(x627, y631.1)]), y631.2)))
          else
            if y631.2 then
              some (.nx (s618.1, true))
            else
              iffO (decide ((s618.1.length + 1) * 24 ≤ 140737488355328))
                (some (.nx ((s618.1 ++ [(x627, y631.1)]), false)))
        else
          if (y631.1 != (0 : Int)) then
            iffO (decide ((s618.1.length + 1) * 24 ≤ 140737488355328))
              (some (.nx ((s618.1 ++ [(x627, y631.1)]), false)))
          else
            if y631.2 then
              some (.nx (s618.1, false))
            else
              iffO (decide ((s618.1.length + 1) * 24 ≤ 140737488355328))
                (some (.nx ((s618.1 ++ [(x627, y631.1)]), false)))) (by omega) (fun k s => s.2 = true ∧ s.1 = outT (A m) k) ⟨rfl, rfl⟩ (by
      rintro k ⟨o, b⟩ hk ⟨rfl, rfl⟩
      obtain ⟨v, hv, _⟩ := drop_some hk
      have hv' : (sortK (A m))[k]? = some v := by rw [← keys_is]; exact hv
      have hs := out_step hv'
      have hol : (outT (A m) k).length ≤ 3900 := Nat.le_trans (List.length_filterMap_le ..) (by rw [List.length_take]; omega)
      have hnum := num_is (mapG_nrm (B := 1000000000000000 * (j : Int)) (by omega) v hn) (by omega)
      rw [mapG_A] at hnum
      simp only [hv, bind_s]
      rw [show (((mapG v m).getD ((0 : Int), (0 : Int))).1, ((mapG v m).getD ((0 : Int), (0 : Int))).2) = (mapG v m).getD (0, 0) from rfl, hnum, bind_s]
      by_cases h0 : aget v (A m) = 0
      · have e0 : (aget v (A m) != (0 : Int)) = false := by simp [h0]
        simp only [e0, if_true, Bool.false_eq_true, if_false]
        refine ⟨(outT (A m) k, true), rfl, rfl, ?_⟩
        rw [hs, pickT, if_pos h0]; simp
      · have e0 : (aget v (A m) != (0 : Int)) = true := by simp [h0]
        simp only [e0, if_true]
        rw [iffO_d (by omega)]
        refine ⟨(outT (A m) k ++ [(v, aget v (A m))], true), rfl, rfl, ?_⟩
        rw [hs, pickT, if_neg h0]; simp)
  simp only at h2 h3
  rw [h1, h2, h3, keys_is, sortK_len, out_all]
theorem p_combine (fs : List Fc) (ms : List Int) (hv : valids fs) (hl : fs.length ≤ 300) :
    certificate_combine fs ms = some (if ms.length = fs.length ∧ oks fs ms = true then ((comb fs ms (0, [])).2, (comb fs ms (0, [])).1, 0) else ([], 0, 18)) := by
  unfold certificate_combine
  by_cases hn : ms.length = fs.length
  · rw [show (((ms.length : Nat) : Int) != ((fs.length : Nat) : Int)) = false by simp [hn], if_neg (by simp)]
    rw [forC_val (n := ms.length) (s := ((0, 0, []) : Int × Int × Mp)) (by omega) (fun k (s : Int × Int × Mp) => some (if oks (fs.drop k) (ms.drop k) = true then .inl (acc (fs.drop k) (ms.drop k) s) else .inr (([], 0, 18) : List Tm × Int × Int))) (fun _ _ => True) trivial (fun s _ => by rw [List.drop_length, show fs.drop ms.length = [] by rw [hn, List.drop_length]]; rfl) ?_ (fun _ _ _ _ _ _ => trivial)]
    · rw [List.drop_zero, List.drop_zero]
      simp only [hn, true_and, bind_s]
      cases ho : oks fs ms with
      | false => rfl
      | true =>
        obtain ⟨i, hi, g⟩ := good_acc fs ms good_0 (by omega) hv ho
        rw [if_pos rfl, if_pos rfl, elim_l]
        have hB : (1000000000000000 * (i : Int)) ≤ 4000000000000000000 := by omega
        rw [num_is g.c hB, bind_s, iffO_t (show mapOk (acc fs ms (0, 0, [])).2.2 = true from ?_), p_out _ g.nr (by omega) (by have := g.ln; omega), bind_s, elim_l, lin_is _ g.kd g.ls g.lg, g.lc]
        · rfl
        · unfold mapOk
          simp only [Bool.and_eq_true, List.all_eq_true, decide_eq_true_eq]
          refine ⟨fun p hp => ?_, by have := g.ln; omega⟩
          have := g.sz (p.1, tv p.2) (List.mem_map.2 ⟨p, hp, rfl⟩)
          simp only at this
          omega
    · rintro k s hk _
      obtain ⟨m, hm, hd⟩ := drop_some hk
      obtain ⟨f, hf, hd'⟩ := drop_some (l := fs) (n := k) (by omega)
      have hfm : f ∈ fs := List.mem_of_getElem? hf
      have lf := (valid_parts (hv f hfm)).2.1
      rw [hd, hd', oks, acc, okM]
      simp only [hm, hf, bind_s]
      by_cases c1 : m < -1000000000
      · have e1 : decide (m < -1000000000) = true := decide_eq_true c1
        have e1' : decide (-1000000000 ≤ m) = false := decide_eq_false (by omega)
        simp only [e1, e1', Bool.false_and, if_true, Bool.false_eq_true, if_false, bind_s, on_rt]
      · have e1 : decide (m < -1000000000) = false := decide_eq_false c1
        have e1' : decide (-1000000000 ≤ m) = true := decide_eq_true (by omega)
        simp only [e1, e1', Bool.true_and, Bool.false_eq_true, if_false]
        by_cases c2 : 1000000000 < m
        · have e2 : decide (1000000000 < m) = true := decide_eq_true c2
          have e2' : decide (m ≤ 1000000000) = false := decide_eq_false (by omega)
          simp only [e2, e2', Bool.false_and, if_true, Bool.false_eq_true, if_false, bind_s, on_rt]
        · have e2 : decide (1000000000 < m) = false := decide_eq_false c2
          have e2' : decide (m ≤ 1000000000) = true := decide_eq_true (by omega)
          simp only [e2, e2', Bool.true_and, Bool.false_eq_true, if_false, bind_s, p_inner m f.2.2 s.2.2 (by omega)]
          simp only [tadd, bind_s, elim_l]
          by_cases c3 : m < 0
          · have e3 : decide (m < 0) = true := decide_eq_true c3
            have e3' : decide (0 ≤ m) = false := decide_eq_false (by omega)
            simp only [e3, e3', Bool.false_or, if_true]
            cases f.1 <;> simp [on, St.on]
          · have e3 : decide (m < 0) = false := decide_eq_false c3
            have e3' : decide (0 ≤ m) = true := decide_eq_true (by omega)
            simp only [e3, e3', Bool.true_or, Bool.false_eq_true, if_false, Bool.true_and, bind_s, on_nx]
  · rw [if_pos (by simpa using by omega), if_neg (fun h => hn h.1)]

end Go.Proofs.Ytgjamefpphhobaa.M7C
