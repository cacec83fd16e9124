/- Names, what is valid, and sums: what the functions come to. -/
import Derived.Test.YtgjamefpphhobaaD7P
import Derived.Test.YtgjamefpphhobaaD7R
import Derived.Test.YtgjamefpphhobaaLM
import Derived.Test.YtgjamefpphhobaaPK
namespace Go.Proofs.Ytgjamefpphhobaa.M7A
open Go Go.Proofs.Ytgjamefpphhobaa.Eng Go.Proofs.Ytgjamefpphhobaa Go.RowKit Go.Proofs.Ytgjamefpphhobaa.LM Go.Proofs.Ytgjamefpphhobaa.PK Go.Proofs.Ytgjamefpphhobaa.D7P Go.Proofs.Ytgjamefpphhobaa.D7R
set_option linter.unusedSimpArgs false
set_option linter.unusedVariables false
set_option linter.unusedSectionVars false
set_option maxRecDepth 100000

theorem l_digit (n : Int) : linear_isDigit n = some (digI n) := by unfold linear_isDigit digI; by_cases h : 48 ≤ n <;> simp [h]
theorem l_letter (n : Int) : linear_isLetter n = some (letterI n) := by unfold linear_isLetter letterI; by_cases h : 97 ≤ n <;> simp [h]
theorem r_digit (n : Int) : ref04_digit n = some (digI n) := by unfold ref04_digit digI; by_cases h : 48 ≤ n <;> simp [h]
theorem r_letter (n : Int) : ref04_letter n = some (letterI n) := by unfold ref04_letter letterI; by_cases h : 97 ≤ n <;> simp [h]
theorem l_nb (n : Int) : linear_isNameByte n = some (nbI n) := by
  unfold linear_isNameByte nbI
  rw [l_letter, bind_s, l_digit]
  cases letterI n <;> rfl
theorem l_fits (n : Int) : linear_fits n = some (fitsI n) := by unfold linear_fits fitsI; by_cases h : -1000000 ≤ n <;> simp [h]
theorem r_small (n : Int) : ref04_small n = some (fitsI n) := by unfold ref04_small fitsI; by_cases h : -1000000 ≤ n <;> simp [h]

theorem span_gen (p : Int → Bool) (q : Int → Option Bool) (hq : ∀ n, q n = some (p n)) (s : ByteArray) (hs : s.size ≤ 1000000) (k : Nat) (hk : k ≤ s.size) :
    (whlC (R := Int) (k : Int) fun i => if (decide (i < (s.size : Int))) then (idxB s i).bind fun x => (q (x.toNat : Int)).bind fun y => if y then some (.nx (IntKind.i64.wrap (i + (1 : Int)))) else some (.br i) else some (.br i)) = some (.inl ((k + spanN p ((bs s).drop k) : Nat) : Int)) := by
  refine (whlC_val (fun i => some (.inl ((i.toNat + spanN p ((bs s).drop i.toNat) : Nat) : Int))) (fun i => 0 ≤ i ∧ i ≤ s.size) (fun i => s.size - i.toNat) ⟨by omega, by omega⟩ (by omega) ?_ ?_).trans (by rw [Int.toNat_natCast])
  · rintro i ⟨h0, h1⟩
    obtain ⟨n, rfl⟩ := Int.eq_ofNat_of_zero_le h0
    simp only [Int.toNat_natCast]
    by_cases hn : n < s.size
    · have hl : n < (bs s).length := by rw [bs_size]; exact hn
      rw [if_pos (decide_eq_true (by omega)), idxB_nat, bs_get, List.getElem?_eq_getElem hl, bind_s, hq, bind_s, span_drop p hl]
      cases hp : p ((bs s)[n].toNat : Int) with
      | true =>
        rw [if_pos rfl, if_pos rfl, bind_s, on_nx, wrap_in (by omega) (by omega)]
        rw [show ((n : Int) + 1).toNat = n + 1 by omega]
        congr 3
        omega
      | false => simp [on, St.on]
    · have hd : (bs s).drop n = [] := List.drop_eq_nil_of_le (by rw [bs_size]; omega)
      rw [if_neg (by simpa using by omega), bind_s, on_br, hd]
      simp [spanN]
  · rintro i i' ⟨h0, h1⟩ h
    obtain ⟨n, rfl⟩ := Int.eq_ofNat_of_zero_le h0
    by_cases hn : n < s.size
    · have hl : n < (bs s).length := by rw [bs_size]; exact hn
      rw [if_pos (decide_eq_true (by omega)), idxB_nat, bs_get, List.getElem?_eq_getElem hl, bind_s, hq, bind_s, wrap_in (by omega) (by omega)] at h
      split at h
      · simp at h
        subst h
        omega
      · simp at h
    · rw [if_neg (by simpa using by omega)] at h
      simp at h
theorem span_d (s : ByteArray) (hs : s.size ≤ 1000000) (h1 : 1 ≤ s.size) : linear_span__linear_isDigit s (1 : Int) = some ((1 + spanN digI ((bs s).drop 1) : Nat) : Int) := by
  unfold linear_span__linear_isDigit
  exact congrArg (fun o : Option (Int ⊕ Int) => o.bind (Sum.elim (fun s => some s) some)) (span_gen digI linear_isDigit l_digit s hs 1 h1)
theorem span_n (s : ByteArray) (hs : s.size ≤ 1000000) (h1 : 1 ≤ s.size) : linear_span__linear_isNameByte s (1 : Int) = some ((1 + spanN nbI ((bs s).drop 1) : Nat) : Int) := by
  unfold linear_span__linear_isNameByte
  exact congrArg (fun o : Option (Int ⊕ Int) => o.bind (Sum.elim (fun s => some s) some)) (span_gen nbI linear_isNameByte l_nb s hs 1 h1)
theorem beq_nat (a b : Nat) : (((a : Nat) : Int) == (b : Int)) = decide (a = b) := by
  rw [Bool.eq_iff_iff, beq_iff_eq, decide_eq_true_eq]
  omega
theorem i1 (n : Nat) : ((1 : Int) < (n : Int)) = (1 < n) := propext (by omega)
theorem i0 (n : Nat) : ((0 : Int) < (n : Int)) = (0 < n) := propext (by omega)
theorem i30 (n : Nat) : ((n : Int) ≤ 30) = (n ≤ 30) := propext (by omega)
theorem i9 (n : Nat) (h : 0 < n) : ((n : Int) - 1 ≤ 9) = (n - 1 ≤ 9) := propext (by omega)
theorem l_name (s : ByteArray) (hs : s.size ≤ 1000000) : linear_Name s = some (nameE s) := by
  have e0 : s[0]? = (bs s)[0]? := bs_get s 0
  have e1 : s[1]? = (bs s)[1]? := bs_get s 1
  have hsz : s.size = (bs s).length := (bs_size s).symm
  have sd := span_d s hs
  have sn := span_n s hs
  unfold linear_Name
  show _ = some (nameL (bs s))
  rw [e0, e1]
  obtain ⟨l, hl⟩ : ∃ l, bs s = l := ⟨_, rfl⟩
  rw [hl] at hsz sd sn ⊢
  rw [hsz] at hs sd sn ⊢
  clear e0 e1 hl hsz
  unfold nameL
  cases l with
  | nil => rfl
  | cons b r =>
    have sd := sd (by simp)
    have sn := sn (by simp)
    rw [wrap_in (x := ((b :: r).length : Int) - 1) (by omega) (by omega)]
    simp only [sd, sn, l_letter, bind_s, List.getElem?_cons_zero, hd, List.drop_one, List.tail_cons, i1, i0, i30, i9 _ (show 0 < (b :: r).length by simp), beq_nat, List.length_cons]
    cases r with
    | nil => cases h4 : letterI (b.toNat : Int) <;> simp [h4]
    | cons c q =>
      simp only [List.getElem?_cons_succ, List.getElem?_cons_zero, bind_s, List.length_cons, List.drop_succ_cons, List.drop_zero]
      by_cases h1 : (b.toNat : Int) = 95
      · by_cases h2 : (c.toNat : Int) = 48
        · simp [h1, h2]
        · by_cases h3 : q.length ≤ 8
          · simp [h1, h2, h3, show ((q.length : Int) + 1 ≤ 9) from by omega]
          · simp [h1, h2, h3, show ¬ ((q.length : Int) + 1 ≤ 9) from by omega]
      · by_cases h3 : q.length + 1 + 1 ≤ 30
        · cases h4 : letterI (b.toNat : Int) <;> simp [h1, h3, h4]
        · simp [h1, h3]

theorem spanN_all (p : Int → Bool) (l : List UInt8) : spanN p l = l.length ↔ l.all (fun b => p b.toNat) = true := by
  induction l with
  | nil => simp [spanN]
  | cons b r ih =>
    unfold spanN at ih ⊢
    rw [List.takeWhile_cons]
    cases h : p b.toNat with
    | true => simpa [h] using ih
    | false => simp [h]
theorem drop_some {α : Type} {l : List α} {n : Nat} (h : n < l.length) : ∃ b, l[n]? = some b ∧ l.drop n = b :: l.drop (n + 1) := ⟨l[n], List.getElem?_eq_getElem h, List.drop_eq_getElem_cons h⟩
theorem r_rest (s : ByteArray) (hs : s.size ≤ 1000000) (k : Nat) (hk : k ≤ s.size) :
    (whlC (R := Bool) (k : Int) fun i => if (decide (i < (s.size : Int))) then (idxB s i).bind fun x => (ref04_digit (x.toNat : Int)).bind fun y => if y then some (.nx (IntKind.i64.wrap (i + (1 : Int)))) else some (.rt false) else some (.br i)) = some (if ((bs s).drop k).all (fun b => digI b.toNat) = true then .inl (s.size : Int) else .inr false) := by
  refine (whlC_val (fun i => some (if ((bs s).drop i.toNat).all (fun b => digI b.toNat) = true then .inl (s.size : Int) else .inr false)) (fun i => 0 ≤ i ∧ i ≤ s.size) (fun i => s.size - i.toNat) ⟨by omega, by omega⟩ (by omega) ?_ ?_).trans (by rw [Int.toNat_natCast])
  · rintro i ⟨h0, h1⟩
    obtain ⟨n, rfl⟩ := Int.eq_ofNat_of_zero_le h0
    simp only [Int.toNat_natCast]
    by_cases hn : n < s.size
    · obtain ⟨b, hb, hd⟩ := drop_some (l := bs s) (n := n) (by rw [bs_size]; exact hn)
      have hc : decide ((n : Int) < (s.size : Int)) = true := decide_eq_true (by omega)
      simp only [hc, if_true, idxB_nat, bs_get, hb, bind_s, r_digit, hd, List.all_cons]
      cases hp : digI (b.toNat : Int) with
      | true =>
        rw [if_pos rfl, bind_s, on_nx, wrap_in (by omega) (by omega), Bool.true_and]
        rw [show ((n : Int) + 1).toNat = n + 1 by omega]
      | false => simp [on, St.on]
    · have hd : (bs s).drop n = [] := List.drop_eq_nil_of_le (by rw [bs_size]; omega)
      have hc : decide ((n : Int) < (s.size : Int)) = false := decide_eq_false (by omega)
      simp only [hc, Bool.false_eq_true, if_false, bind_s, on_br, hd]
      rw [show (n : Int) = s.size by omega]
      simp
  · rintro i i' ⟨h0, h1⟩ h
    obtain ⟨n, rfl⟩ := Int.eq_ofNat_of_zero_le h0
    by_cases hn : n < s.size
    · have hl : n < (bs s).length := by rw [bs_size]; exact hn
      rw [if_pos (decide_eq_true (by omega)), idxB_nat, bs_get, List.getElem?_eq_getElem hl, bind_s, r_digit, bind_s, wrap_in (by omega) (by omega)] at h
      split at h
      · simp at h
        subst h
        omega
      · simp at h
    · rw [if_neg (by simpa using by omega)] at h
      simp at h
theorem r_first (s : ByteArray) (hs : s.size ≤ 1000000) : (forC (R := Bool) (s.size) (() : Unit) fun k1589 s1588 =>
        (s[k1589]?).bind fun x1597 =>
        (ref04_letter (x1597.toNat : Int)).bind fun y1601 =>
        if y1601 then
          some (.nx ())
        else
          if ((k1589 : Int) == (0 : Int)) then
            some (.rt false)
          else
            (ref04_digit (x1597.toNat : Int)).bind fun y1606 =>
            if y1606 then
              some (.nx ())
            else
              some (.rt false)) = some (if ((bs s).head?.all (fun b => letterI b.toNat) && ((bs s).drop 1).all (fun b => nbI b.toNat)) = true then .inl () else .inr false) := by
  refine (forC_val (by omega) (fun k _ => some (if ((k != 0 || (bs s).head?.all (fun b => letterI b.toNat)) && ((bs s).drop (max k 1)).all (fun b => nbI b.toNat)) = true then .inl () else .inr false)) (fun _ _ => True) trivial (fun _ _ => ?_) (fun k _ hk _ => ?_) (fun _ _ _ _ _ _ => trivial)).trans (by simp)
  · have hd : (bs s).drop (max s.size 1) = [] := List.drop_eq_nil_of_le (by rw [bs_size]; omega)
    rw [hd]
    rcases Nat.eq_zero_or_pos s.size with h | h
    · have : bs s = [] := List.eq_nil_of_length_eq_zero (by rw [bs_size]; omega)
      simp only [this, List.head?_nil, Option.all_none, List.all_nil, Bool.or_true, Bool.and_self, if_true]
    · simp [show s.size ≠ 0 by omega]
  · obtain ⟨b, hb, hd⟩ := drop_some (l := bs s) (n := k) (by rw [bs_size]; exact hk)
    simp only [bs_get, hb, bind_s, r_letter]
    rcases Nat.eq_zero_or_pos k with rfl | h0
    · have hh : (bs s).head? = some b := by rw [List.head?_eq_getElem?]; exact hb
      simp only [hh, Option.all_some]
      cases letterI (b.toNat : Int) <;> simp [on, St.on]
    · rw [show max k 1 = k by omega, show max (k + 1) 1 = k + 1 by omega, hd, List.all_cons, show (((k : Nat) : Int) == (0 : Int)) = false by rw [beq_eq_false_iff_ne]; omega, r_digit, bind_s, show (k != 0) = true by simpa using by omega]
      simp only [nbI, Bool.true_or, Bool.true_and]
      cases h1 : letterI (b.toNat : Int) <;> cases h2 : digI (b.toNat : Int) <;> simp [on, St.on]
theorem i2 (n : Nat) : ((n : Int) < 2) = (n < 2) := propext (by omega)
theorem i30' (n : Nat) : ((30 : Int) < (n : Int)) = (30 < n) := propext (by omega)
theorem i10 (n : Nat) : ((10 : Int) < (n : Int)) = (10 < n) := propext (by omega)
theorem r_name (s : ByteArray) (hs : s.size ≤ 1000000) : ref04_Name s = some (nameE s) := by
  have e0 : s[0]? = (bs s)[0]? := bs_get s 0
  have e1 : s[1]? = (bs s)[1]? := bs_get s 1
  have hsz : s.size = (bs s).length := (bs_size s).symm
  have sd := fun h => congrArg (fun o : Option (Int ⊕ Bool) => o.bind (Sum.elim (fun s1544 => some true) some)) (r_rest s hs 1 h)
  have sf := r_first s hs
  rw [show ((1 : Nat) : Int) = 1 from rfl] at sd
  unfold ref04_Name
  rw [sf]
  clear sf
  show _ = some (nameL (bs s))
  rw [e0, e1]
  obtain ⟨l, hl⟩ : ∃ l, bs s = l := ⟨_, rfl⟩
  rw [hl] at hsz sd ⊢
  rw [hsz] at hs sd ⊢
  clear e0 e1 hl hsz
  unfold nameL
  cases l with
  | nil => rfl
  | cons b r =>
    have sd := sd (by simp)
    rw [sd]
    simp only [List.getElem?_cons_zero, bind_s, hd, List.drop_one, List.tail_cons, List.length_cons, List.head?_cons, Option.all_some, i2, i30', i10]
    rw [show ((((r.length + 1 : Nat) : Int) == (0 : Int))) = false by rw [beq_eq_false_iff_ne]; omega]
    simp only [Bool.false_eq_true, if_false]
    by_cases h30 : 30 < r.length + 1
    · rw [if_pos (decide_eq_true h30)]
      split
      · simp; omega
      · simp [show ¬ (r.length + 1 ≤ 30) by omega]
    · rw [if_neg (by simpa using by omega)]
      cases r with
      | nil =>
        cases h4 : letterI (b.toNat : Int) <;> by_cases h1 : (b.toNat : Int) = 95 <;> simp [h1, h4, spanN]
        rw [h1] at h4
        exact absurd h4 (by decide)
      | cons c q =>
        simp only [List.getElem?_cons_succ, List.getElem?_cons_zero, bind_s, List.length_cons, List.drop_succ_cons, List.drop_zero]
        have e1 : decide (1 + spanN digI (c :: q) = q.length + 1 + 1) = (c :: q).all (fun b => digI b.toNat) := by
          rw [Bool.eq_iff_iff, decide_eq_true_eq, ← spanN_all, List.length_cons]; omega
        have e2 : decide (1 + spanN nbI (c :: q) = q.length + 1 + 1) = (c :: q).all (fun b => nbI b.toNat) := by
          rw [Bool.eq_iff_iff, decide_eq_true_eq, ← spanN_all, List.length_cons]; omega
        have k2 : decide (q.length + 1 + 1 < 2) = false := decide_eq_false (by omega)
        have k0 : decide (0 < q.length + 1 + 1) = true := decide_eq_true (by omega)
        have k30 : decide (q.length + 1 + 1 ≤ 30) = true := decide_eq_true (by simp only [List.length_cons] at h30; omega)
        have k9 : decide (q.length + 1 + 1 - 1 ≤ 9) = !decide (10 < q.length + 1 + 1) := by
          rw [Bool.eq_iff_iff, decide_eq_true_eq, Bool.not_eq_true', decide_eq_false_iff_not]; omega
        have k1 : 1 < q.length + 1 + 1 := by omega
        rw [e1, e2]
        simp only [k2, k0, k30, k9, Bool.false_eq_true, if_false, Bool.true_and]
        generalize (c :: q).all (fun b => digI b.toNat) = A
        generalize (c :: q).all (fun b => nbI b.toNat) = N
        generalize letterI (b.toNat : Int) = T
        generalize decide (10 < q.length + 1 + 1) = D
        by_cases h1 : (b.toNat : Int) = 95
        · by_cases h2 : (c.toNat : Int) = 48
          · cases D <;> simp [h1, h2, k1]
          · cases D <;> cases A <;> simp [h1, h2, k1]
        · cases T <;> cases N <;> simp [h1]

/-! What is valid. -/
def names (ts : List Tm) : Prop := ts.length ≤ 1000000 ∧ ∀ t ∈ ts, t.1.size ≤ 1000000
theorem lt_is (a b : ByteArray) : ltS a b = lessB a b := by unfold ltS; exact lessB_is a b
def prevT (ts : List Tm) (k : Nat) : Option ByteArray := if k = 0 then none else (ts[k - 1]?).map (·.1)
theorem prev_succ {ts : List Tm} {k : Nat} {t : Tm} (h : ts[k]? = some t) : prevT ts (k + 1) = some t.1 := by simp [prevT, h]
theorem prev_get {ts : List Tm} {k : Nat} (h0 : 0 < k) (hk : k ≤ ts.length) : ∃ q, ts[k - 1]? = some q ∧ prevT ts k = some q.1 := by
  refine ⟨ts[k - 1]'(by omega), List.getElem?_eq_getElem (by omega), ?_⟩
  simp [prevT, show k ≠ 0 by omega, List.getElem?_eq_getElem (show k - 1 < ts.length by omega)]
theorem idx_prev {ts : List Tm} {k : Nat} (h0 : 0 < k) (hk : k ≤ ts.length) (hl : ts.length ≤ 1000000) : idxO ts (IntKind.i64.wrap ((k : Int) - (1 : Int))) = ts[k - 1]? := by
  rw [wrap_in (by omega) (by omega), show ((k : Int) - 1) = ((k - 1 : Nat) : Int) by omega, idxO_nat]
theorem l_valid (l : Int × List Tm) (h : names l.2) : linear_Valid l = some (validE l.1 l.2) := by
  obtain ⟨c, ts⟩ := l
  obtain ⟨hl, hn⟩ := h
  simp only at hl hn
  unfold linear_Valid validE
  simp only [l_fits, bind_s]
  cases hf : fitsI c with
  | false => simp
  | true =>
    rw [if_pos rfl, Bool.true_and]
    by_cases h12 : ts.length ≤ 12
    · rw [if_neg (by simpa using by omega), decide_eq_true h12, Bool.true_and]
      rw [forC_val (by omega) (fun k _ => some (if termsE (prevT ts k) (ts.drop k) = true then .inl () else .inr false)) (fun _ _ => True) trivial (fun _ _ => by rw [List.drop_length]; rfl) (fun k _ hk _ => ?_) (fun _ _ _ _ _ _ => trivial)]
      · rw [List.drop_zero]
        show (some (if termsE none ts = true then _ else _)).bind _ = _
        cases termsE none ts <;> rfl
      · obtain ⟨t, ht, hd⟩ := drop_some hk
        have hm : t ∈ ts := List.mem_of_getElem? ht
        rw [hd, termsE_cons]
        simp only [ht, bind_s, l_fits, l_name t.1 (hn t hm), prev_succ ht]
        by_cases h0 : t.2 = 0
        · simp [h0, on, St.on]
        · rw [show (t.2 == (0 : Int)) = false from beq_eq_false_iff_ne.2 h0, decide_eq_false h0]
          cases fitsI t.2 with
          | false => simp [on, St.on]
          | true =>
            cases nameE t.1 with
            | false => simp [on, St.on]
            | true =>
              rcases Nat.eq_zero_or_pos k with rfl | hk0
              · simp [on, St.on, prevT]
              · obtain ⟨q, hq, hp⟩ := prev_get hk0 (Nat.le_of_lt hk)
                rw [hp, idx_prev hk0 (Nat.le_of_lt hk) hl, hq, if_pos (c := decide ((0 : Int) < (k : Int)) = true) (decide_eq_true (by omega))]
                simp only [bind_s, lt_is]
                cases lessB q.1 t.1 <;> simp [on, St.on]
    · rw [if_pos (decide_eq_true (by omega)), decide_eq_false h12]
      rfl
theorem r_valid (l : Int × List Tm) (h : names l.2) : ref04_Valid l = some (validE l.1 l.2) := by
  obtain ⟨c, ts⟩ := l
  obtain ⟨hl, hn⟩ := h
  simp only at hl hn
  unfold ref04_Valid validE
  simp only [r_small, bind_s]
  cases hf : fitsI c with
  | false => simp
  | true =>
    rw [if_pos rfl, Bool.true_and]
    by_cases h12 : ts.length ≤ 12
    · rw [if_neg (by simpa using by omega), decide_eq_true h12, Bool.true_and]
      rw [forC_val (by omega) (fun k _ => some (if termsE (prevT ts k) (ts.drop k) = true then .inl () else .inr false)) (fun _ _ => True) trivial (fun _ _ => by rw [List.drop_length]; rfl) (fun k _ hk _ => ?_) (fun _ _ _ _ _ _ => trivial)]
      · rw [List.drop_zero]
        show (some (if termsE none ts = true then _ else _)).bind _ = _
        cases termsE none ts <;> rfl
      · obtain ⟨t, ht, hd⟩ := drop_some hk
        have hm : t ∈ ts := List.mem_of_getElem? ht
        rw [hd, termsE_cons]
        simp only [ht, bind_s, r_small, r_name t.1 (hn t hm), prev_succ ht]
        by_cases h0 : t.2 = 0
        · cases nameE t.1 <;> simp [h0, on, St.on]
        · rw [show (t.2 == (0 : Int)) = false from beq_eq_false_iff_ne.2 h0, decide_eq_false h0]
          cases nameE t.1 with
          | false => simp [on, St.on]
          | true =>
            cases fitsI t.2 with
            | false => simp [on, St.on]
            | true =>
              rcases Nat.eq_zero_or_pos k with rfl | hk0
              · simp [on, St.on, prevT]
              · obtain ⟨q, hq, hp⟩ := prev_get hk0 (Nat.le_of_lt hk)
                rw [hp, idx_prev hk0 (Nat.le_of_lt hk) hl, hq, if_pos (c := decide ((0 : Int) < (k : Int)) = true) (decide_eq_true (by omega))]
                simp only [bind_s, lt_is]
                cases lessB q.1 t.1 <;> simp [on, St.on]
    · rw [if_pos (decide_eq_true (by omega)), decide_eq_false h12]
      rfl

end Go.Proofs.Ytgjamefpphhobaa.M7A
