/- Linear expressions: what is true of them. -/
import Derived.Test.YtgjamefpphhobaaEngD
import Derived.Test.YtgjamefpphhobaaTy
import Derived.Test.YtgjamefpphhobaaBase
import Derived.Laws.EntriesVeiled
import Derived.Sort.Walk0
namespace Go.Proofs.Ytgjamefpphhobaa.LM
open Go Go.Proofs.Ytgjamefpphhobaa.Eng Go.Proofs.Ytgjamefpphhobaa Go.RowKit Go.Maps
set_option linter.unusedSimpArgs false
set_option linter.unusedVariables false
set_option linter.unusedSectionVars false
set_option maxRecDepth 100000

abbrev I (n : Int) : AV := .c (.int .i64 n)
abbrev B (b : Bool) : AV := .c (.bool b)
abbrev S (s : ByteArray) : AV := .c (.string s)
abbrev U (n : Int) : AV := .c (.int .u8 n)
abbrev W (n : Int) : Int := IntKind.i64.wrap n
abbrev Tm := ByteArray × Int
abbrev tmV (t : Tm) : List AV := [S t.1, I t.2]
abbrev tms (ts : List Tm) : AV := .sl false 2 (ts.map tmV)
abbrev ln (c : Int) (ts : List Tm) : AV := .agg [I c, tms ts]
theorem wrap_in {x : Int} (h1 : -9223372036854775808 ≤ x) (h2 : x ≤ 9223372036854775807) : IntKind.i64.wrap x = x := by
  rw [IntKind.wrap_i64]; omega
abbrev bs (s : ByteArray) : List UInt8 := s.data.toList
theorem bs_size (s : ByteArray) : (bs s).length = s.size := Array.length_toList
theorem bs_get (s : ByteArray) (k : Nat) : s[k]? = (bs s)[k]? := by
  by_cases h : k < s.size
  · have h' : k < s.data.size := h
    rw [getElem?_pos s k h]
    show some (s.data[k]'h') = _
    simp [bs, h']
  · have h' : ¬ k < s.data.size := h
    rw [getElem?_neg s k h]
    simp [bs]
    exact Nat.le_of_not_lt h'
theorem bs_inj {a b : ByteArray} (h : bs a = bs b) : a = b := by
  cases a; cases b
  simp only [bs] at h
  rw [Array.toList_inj.1 h]

/-! Names. -/
def letterI (n : Int) : Bool := decide (97 ≤ n) && decide (n ≤ 122)
def digI (n : Int) : Bool := decide (48 ≤ n) && decide (n ≤ 57)
def nbI (n : Int) : Bool := letterI n || digI n
def spanN (p : Int → Bool) (l : List UInt8) : Nat := (l.takeWhile fun b => p b.toNat).length
def hd (l : List UInt8) : Int := match l with | [] => 0 | b :: _ => b.toNat
def nameL (l : List UInt8) : Bool :=
  if 1 < l.length ∧ hd l = 95 then !decide (hd (l.drop 1) = 48) && (decide (l.length - 1 ≤ 9) && decide (1 + spanN digI (l.drop 1) = l.length))
  else decide (0 < l.length) && (decide (l.length ≤ 30) && (letterI (hd l) && decide (1 + spanN nbI (l.drop 1) = l.length)))
abbrev nameE (s : ByteArray) : Bool := nameL (bs s)
def fitsI (n : Int) : Bool := decide (-1000000 ≤ n) && decide (n ≤ 1000000)

/-! What is valid. -/
def ltS (a b : ByteArray) : Bool := Op.bytesLess a.toList b.toList
def termsE : Option ByteArray → List Tm → Bool
  | _, [] => true
  | p, t :: r => !decide (t.2 = 0) && (fitsI t.2 && (nameE t.1 && ((match p with | none => true | some q => ltS q t.1) && termsE (some t.1) r)))
theorem termsE_cons (p : Option ByteArray) (t : Tm) (r : List Tm) : termsE p (t :: r) = (!decide (t.2 = 0) && (fitsI t.2 && (nameE t.1 && ((match p with | none => true | some q => ltS q t.1) && termsE (some t.1) r)))) := by cases p <;> rfl
def validE (c : Int) (ts : List Tm) : Bool := fitsI c && (decide (ts.length ≤ 12) && termsE none ts)

/-! Sums: the terms in the order in which they came. -/
def aget (v : ByteArray) : List Tm → Int
  | [] => 0
  | t :: r => if t.1 = v then t.2 else aget v r
def aput (v : ByteArray) (x : Int) : List Tm → List Tm
  | [] => [(v, x)]
  | t :: r => if t.1 = v then (v, x) :: r else t :: aput v x r
def addT (k : Int) : List Tm → List Tm → List Tm
  | [], cs => cs
  | t :: r, cs => addT k r (aput t.1 (W (aget t.1 cs + W (k * t.2))) cs)
def keysD (cs : List Tm) : Prop := (cs.map (·.1)).Nodup
theorem aput_keys (v : ByteArray) (x : Int) : ∀ cs : List Tm, (v ∈ cs.map (·.1) ∧ (aput v x cs).map (·.1) = cs.map (·.1)) ∨ (v ∉ cs.map (·.1) ∧ (aput v x cs).map (·.1) = cs.map (·.1) ++ [v])
  | [] => Or.inr ⟨by simp, by simp [aput]⟩
  | t :: r => by
    simp only [aput]
    by_cases h : t.1 = v
    · rw [if_pos h]; exact Or.inl ⟨by simp [h], by simp [h]⟩
    · rw [if_neg h]
      have h' : ¬ v = t.1 := fun e => h e.symm
      rcases aput_keys v x r with ⟨h1, h2⟩ | ⟨h1, h2⟩
      · exact Or.inl ⟨List.mem_cons_of_mem _ h1, by rw [List.map_cons, h2]; rfl⟩
      · refine Or.inr ⟨fun hm => ?_, by rw [List.map_cons, h2]; rfl⟩
        rcases List.mem_cons.1 hm with hm | hm
        · exact h' hm
        · exact h1 hm
theorem aput_d {v : ByteArray} {x : Int} {cs : List Tm} (h : keysD cs) : keysD (aput v x cs) := by
  unfold keysD at *
  rcases aput_keys v x cs with ⟨_, h2⟩ | ⟨h1, h2⟩
  · rw [h2]; exact h
  · rw [h2]
    exact List.nodup_append.2 ⟨h, by simp, fun a ha b hb => by simp at hb; subst hb; exact fun e => h1 (e ▸ ha)⟩
theorem addT_d (k : Int) : ∀ (ts : List Tm) {cs : List Tm}, keysD cs → keysD (addT k ts cs)
  | [], _, h => h
  | t :: r, _, h => addT_d k r (aput_d h)
theorem aput_len (v : ByteArray) (x : Int) (cs : List Tm) : (aput v x cs).length ≤ cs.length + 1 := by
  rcases aput_keys v x cs with ⟨_, h⟩ | ⟨_, h⟩ <;>
  · have := congrArg List.length h
    simp at this
    omega
theorem addT_len (k : Int) : ∀ (ts cs : List Tm), (addT k ts cs).length ≤ cs.length + ts.length
  | [], cs => by simp [addT]
  | t :: r, cs => by
    have h1 := addT_len k r (aput t.1 (W (aget t.1 cs + W (k * t.2))) cs)
    have h2 := aput_len t.1 (W (aget t.1 cs + W (k * t.2))) cs
    simp only [addT, List.length_cons]
    omega

/-! Sorted keys. -/
abbrev ofL (l : List UInt8) : ByteArray := ⟨l.toArray⟩
theorem ofL_bs (s : ByteArray) : ofL (bs s) = s := by simp [ofL, bs]
theorem bs_ofL (l : List UInt8) : bs (ofL l) = l := by simp [ofL, bs]
def sortK (cs : List Tm) : List ByteArray := ((cs.map fun t => bs t.1).mergeSort leB).map ofL
def linT (cs : List Tm) : List Tm := (sortK cs).filterMap fun v => if aget v cs = 0 then none else some (v, aget v cs)
/-- What a sum comes to: an expression and an error. -/
def linearE (c : Int) (cs : List Tm) : (Int × List Tm) × Int := if validE c (linT cs) = true then ((c, linT cs), 0) else ((0, []), 3)
def addC (c0 k c : Int) : Int := W (c0 + W (k * c))
def combineE (a b : Int × List Tm) (k : Int) : (Int × List Tm) × Int :=
  if (!validE a.1 a.2 || !validE b.1 b.2) = true then ((0, []), 1)
  else linearE (addC (addC 0 1 a.1) k b.1) (addT k b.2 (addT 1 a.2 []))
theorem span_drop (p : Int → Bool) {l : List UInt8} {k : Nat} (h : k < l.length) : spanN p (l.drop k) = if p l[k].toNat = true then spanN p (l.drop (k + 1)) + 1 else 0 := by
  rw [List.drop_eq_getElem_cons h]
  unfold spanN
  rw [List.takeWhile_cons]
  split <;> simp_all
def small (ts : List Tm) : Prop := ts.length ≤ 1000000 ∧ ∀ t ∈ ts, t.1.size ≤ 1000000
def pickT (cs : List Tm) (v : ByteArray) : Option Tm := if aget v cs = 0 then none else some (v, aget v cs)
theorem sortK_len (cs : List Tm) : (sortK cs).length = cs.length := by simp [sortK]
theorem sortK_mem {cs : List Tm} {v : ByteArray} (h : v ∈ sortK cs) : ∃ x, (v, x) ∈ cs := by
  unfold sortK at h
  obtain ⟨l, hl, rfl⟩ := List.mem_map.1 h
  rw [(List.mergeSort_perm _ _).mem_iff] at hl
  obtain ⟨t, ht, rfl⟩ := List.mem_map.1 hl
  exact ⟨t.2, by rw [ofL_bs]; exact ht⟩
def outT (cs : List Tm) (k : Nat) : List Tm := ((sortK cs).take k).filterMap (pickT cs)
theorem out_step {cs : List Tm} {k : Nat} {v : ByteArray} (h : (sortK cs)[k]? = some v) : outT cs (k + 1) = outT cs k ++ (pickT cs v).toList := by
  obtain ⟨hk, rfl⟩ := List.getElem?_eq_some_iff.1 h
  unfold outT
  rw [List.take_succ_eq_append_getElem hk, List.filterMap_append]
  congr 1
theorem out_all (cs : List Tm) : outT cs cs.length = linT cs := by
  unfold outT linT
  rw [← sortK_len, List.take_length]
  rfl
theorem aput_mem {v : ByteArray} {x : Int} : ∀ {cs : List Tm} {t : Tm}, t ∈ aput v x cs → t = (v, x) ∨ t ∈ cs
  | [], t, h => by simp [aput] at h; exact Or.inl h
  | u :: r, t, h => by
    unfold aput at h
    split at h
    · rcases List.mem_cons.1 h with h | h
      · exact Or.inl h
      · exact Or.inr (List.mem_cons_of_mem _ h)
    · rcases List.mem_cons.1 h with h | h
      · exact Or.inr (h ▸ List.mem_cons_self)
      · rcases aput_mem h with h | h
        · exact Or.inl h
        · exact Or.inr (List.mem_cons_of_mem _ h)
theorem addT_mem {P : ByteArray → Prop} (k : Int) : ∀ (ts : List Tm) {cs : List Tm}, (∀ t ∈ ts, P t.1) → (∀ t ∈ cs, P t.1) → ∀ t ∈ addT k ts cs, P t.1
  | [], _, _, h => h
  | u :: r, _, h1, h2 => addT_mem k r (fun t ht => h1 t (List.mem_cons_of_mem _ ht)) fun t ht => by
    rcases aput_mem ht with h | h
    · rw [h]; exact h1 u List.mem_cons_self
    · exact h2 t h
theorem addT_small (k : Int) {ts cs : List Tm} (h1 : ∀ t ∈ ts, t.1.size ≤ 1000000) (h2 : ∀ t ∈ cs, t.1.size ≤ 1000000) (hl : cs.length + ts.length ≤ 1000000) : small (addT k ts cs) :=
  ⟨Nat.le_trans (addT_len k ts cs) hl, addT_mem (P := fun v => v.size ≤ 1000000) k ts h1 h2⟩
def mid (ts : List Tm) : Prop := ts.length ≤ 10000 ∧ ∀ t ∈ ts, t.1.size ≤ 1000000
theorem mid.s {ts : List Tm} (h : mid ts) : small ts := ⟨by have := h.1; omega, h.2⟩
/-! One sorted list. -/
def insL (k : List UInt8) : List (List UInt8) → List (List UInt8)
  | [] => [k]
  | x :: r => if leB k x = true then k :: x :: r else x :: insL k r
def isort (l : List (List UInt8)) : List (List UInt8) := l.foldr insL []
theorem leB_tr (a b c : List UInt8) (h1 : leB a b = true) (h2 : leB b c = true) : leB a c = true := by
  simp only [leB, decide_eq_true_eq] at *; exact List.le_trans h1 h2
theorem leB_to (a b : List UInt8) : (leB a b || leB b a) = true := by
  simp only [leB, Bool.or_eq_true, decide_eq_true_eq]; exact List.le_total a b
theorem leB_as {a b : List UInt8} (h1 : leB a b = true) (h2 : leB b a = true) : a = b := by
  simp only [leB, decide_eq_true_eq] at *; exact List.le_antisymm h1 h2
theorem insL_perm (k : List UInt8) : ∀ l, (insL k l).Perm (k :: l)
  | [] => .refl _
  | x :: r => by
    unfold insL
    split
    · exact .refl _
    · exact ((insL_perm k r).cons x).trans (.swap k x r)
theorem isort_perm : ∀ l, (isort l).Perm l
  | [] => .refl _
  | k :: l => (insL_perm k _).trans ((isort_perm l).cons k)
theorem insL_sorted (k : List UInt8) : ∀ l, l.Pairwise (fun a b => leB a b = true) → (insL k l).Pairwise (fun a b => leB a b = true)
  | [], _ => by simp [insL]
  | x :: r, h => by
    obtain ⟨h1, h2⟩ := List.pairwise_cons.1 h
    unfold insL
    split
    · rename_i hk
      exact List.pairwise_cons.2 ⟨fun y hy => (List.mem_cons.1 hy).elim (fun e => e ▸ hk) (fun hy => leB_tr _ _ _ hk (h1 y hy)), h⟩
    · rename_i hk
      have hx : leB x k = true := by
        have := leB_to k x
        rcases Bool.or_eq_true_iff.1 this with h | h
        · exact absurd h hk
        · exact h
      refine List.pairwise_cons.2 ⟨fun y hy => ?_, insL_sorted k r h2⟩
      rcases List.mem_cons.1 ((insL_perm k r).mem_iff.1 hy) with rfl | hy
      · exact hx
      · exact h1 y hy
theorem isort_sorted : ∀ l, (isort l).Pairwise (fun a b => leB a b = true)
  | [] => List.Pairwise.nil
  | k :: l => insL_sorted k _ (isort_sorted l)
theorem sorted_one {l l' : List (List UInt8)} (hp : l.Perm l') (h : l.Pairwise (fun a b => leB a b = true)) (h' : l'.Pairwise (fun a b => leB a b = true)) : l = l' :=
  List.Perm.eq_of_pairwise (le := fun a b => leB a b = true) (fun a b _ _ h1 h2 => leB_as h1 h2) h h' hp
theorem mergeSort_isort (l : List (List UInt8)) : l.mergeSort leB = isort l :=
  sorted_one ((List.mergeSort_perm l leB).trans (isort_perm l).symm) (List.pairwise_mergeSort leB_tr leB_to l) (isort_sorted l)
theorem sortK_is (cs : List Tm) : sortK cs = (isort (cs.map fun t => bs t.1)).map ofL := by
  unfold sortK; rw [mergeSort_isort]

section
end
section
end
section
end
structure Bd where
  kind : Int
  var : ByteArray
  c : Int
  ts : List Tm
  row : ByteArray
  dims : List (Int × List Tm)
  elem : ByteArray
/-! Three-way comparisons. -/
structure Ordd {α : Type} (f : α → α → Int) : Prop where
  anti : ∀ a b, f b a = - f a b
  tr : ∀ a b c, f a b ≤ 0 → f b c ≤ 0 → f a c ≤ 0 ∧ ((f a b < 0 ∨ f b c < 0) → f a c < 0)
def orI (a b : Int) : Int := if a = 0 then b else a
theorem Ordd.zero {α : Type} {f : α → α → Int} (h : Ordd f) {a b c : α} (h1 : f a b = 0) (h2 : f b c = 0) : f a c = 0 := by
  have := (h.tr a b c (by omega) (by omega)).1
  have h3 := h.anti a b
  have h4 := h.anti b c
  have := (h.tr c b a (by omega) (by omega)).1
  have := h.anti a c
  omega
theorem Ordd.or {α : Type} {f g : α → α → Int} (hf : Ordd f) (hg : Ordd g) : Ordd fun a b => orI (f a b) (g a b) := by
  refine ⟨fun a b => ?_, fun a b c => ?_⟩
  · have h1 := hf.anti a b
    have h2 := hg.anti a b
    simp only [orI]
    split <;> split <;> omega
  · have h1 := hf.tr a b c
    have h2 := hg.tr a b c
    have h3 := hf.zero (a := a) (b := b) (c := c)
    simp only [orI]
    split <;> split <;> split <;> omega
def sgL (a b : List UInt8) : Int := if a < b then -1 else if b < a then 1 else 0
theorem sgL_cases (a b : List UInt8) : (a < b ∧ sgL a b = -1) ∨ (a = b ∧ sgL a b = 0) ∨ (b < a ∧ sgL a b = 1) := by
  unfold sgL
  by_cases h1 : a < b
  · exact Or.inl ⟨h1, if_pos h1⟩
  · by_cases h2 : b < a
    · exact Or.inr (Or.inr ⟨h2, by rw [if_neg h1, if_pos h2]⟩)
    · exact Or.inr (Or.inl ⟨List.le_antisymm (List.not_lt.1 h2) (List.not_lt.1 h1), by rw [if_neg h1, if_neg h2]⟩)
theorem lessS (a b : ByteArray) : Op.bytesLess a.toList b.toList = decide (bs a < bs b) := by rw [ByteArray.toList_eq, ByteArray.toList_eq, Go.Proofs.bytesLess_eq]
def ltB (a b : ByteArray) : Prop := bs a < bs b
def sortedT : List Tm → Prop
  | [] => True
  | t :: r => (∀ u ∈ r, ltB t.1 u.1) ∧ t.2 ≠ 0 ∧ sortedT r
theorem ltB_irr (a : ByteArray) : ¬ ltB a a := List.lt_irrefl _
theorem aget_not {v : ByteArray} : ∀ {l : List Tm}, (∀ u ∈ l, u.1 ≠ v) → aget v l = 0
  | [], _ => rfl
  | t :: r, h => by
    rw [aget, if_neg (h t List.mem_cons_self)]
    exact aget_not fun u hu => h u (List.mem_cons_of_mem _ hu)
theorem aget_lt {v : ByteArray} {l : List Tm} (h : ∀ u ∈ l, ltB v u.1) : aget v l = 0 := aget_not fun u hu e => ltB_irr v (by have := h u hu; rwa [e] at this)
theorem aget_ne {v : ByteArray} : ∀ {l : List Tm}, aget v l ≠ 0 → ∃ u ∈ l, u.1 = v ∧ u.2 = aget v l
  | [], h => absurd rfl h
  | t :: r, h => by
    rw [aget] at h ⊢
    by_cases e : t.1 = v
    · rw [if_pos e] at h ⊢
      exact ⟨t, List.mem_cons_self, e, rfl⟩
    · rw [if_neg e] at h ⊢
      obtain ⟨u, hu, h1, h2⟩ := aget_ne h
      exact ⟨u, List.mem_cons_of_mem _ hu, h1, h2⟩
theorem sorted_same : ∀ {x y : List Tm}, sortedT x → sortedT y → (∀ v, aget v x = aget v y) → x = y
  | [], [], _, _, _ => rfl
  | [], t :: r, _, hy, h => by
    have := h t.1
    rw [aget, aget, if_pos rfl] at this
    exact absurd this.symm hy.2.1
  | t :: r, [], hx, _, h => by
    have := h t.1
    rw [aget, aget, if_pos rfl] at this
    exact absurd this hx.2.1
  | t :: r, u :: q, hx, hy, h => by
    have e : t.1 = u.1 := by
      rcases Decidable.em (t.1 = u.1) with e | e
      · exact e
      · exfalso
        have h1 := h t.1
        rw [aget, if_pos rfl, aget, if_neg fun e' => e e'.symm] at h1
        obtain ⟨a, ha, e1, _⟩ := aget_ne (v := t.1) (l := q) (by rw [← h1]; exact hx.2.1)
        have l1 := hy.1 a ha
        rw [e1] at l1
        have h2 := h u.1
        rw [aget, if_neg e, aget, if_pos rfl] at h2
        obtain ⟨b, hb, e2, _⟩ := aget_ne (v := u.1) (l := r) (by rw [h2]; exact hy.2.1)
        have l2 := hx.1 b hb
        rw [e2] at l2
        exact ltB_irr t.1 (List.lt_trans l2 l1)
    have e2 : t.2 = u.2 := by
      have := h t.1
      rwa [aget, if_pos rfl, aget, if_pos e.symm] at this
    have ht : t = u := Prod.ext e e2
    subst ht
    congr 1
    refine sorted_same hx.2.2 hy.2.2 fun v => ?_
    have := h v
    rw [aget, aget] at this
    by_cases ev : t.1 = v
    · subst ev
      rw [aget_lt hx.1, aget_lt hy.1]
    · rwa [if_neg ev, if_neg ev] at this

/-! What a sum comes to is sorted. -/
def ppick (cs : List Tm) (v : ByteArray) : Option Tm := if aget v cs = 0 then none else some (v, aget v cs)
theorem pick_sorted (cs : List Tm) : ∀ (l : List ByteArray), l.Pairwise ltB → sortedT (l.filterMap (ppick cs)) ∧ ∀ u ∈ l.filterMap (ppick cs), u.1 ∈ l
  | [], _ => ⟨trivial, by simp⟩
  | v :: r, h => by
    obtain ⟨h1, h2⟩ := List.pairwise_cons.1 h
    obtain ⟨i1, i2⟩ := pick_sorted cs r h2
    rw [List.filterMap_cons]
    unfold ppick at *
    by_cases e : aget v cs = 0
    · rw [if_pos e]
      exact ⟨i1, fun u hu => List.mem_cons_of_mem _ (i2 u hu)⟩
    · rw [if_neg e]
      refine ⟨⟨fun u hu => h1 _ (i2 u hu), e, i1⟩, fun u hu => ?_⟩
      rcases List.mem_cons.1 hu with rfl | hu
      · exact List.mem_cons_self
      · exact List.mem_cons_of_mem _ (i2 u hu)
theorem pick_get (cs : List Tm) (v : ByteArray) : ∀ (l : List ByteArray), (v ∈ l → aget v (l.filterMap (ppick cs)) = aget v cs) ∧ (v ∉ l → aget v (l.filterMap (ppick cs)) = 0)
  | [] => ⟨fun h => (by cases h), fun _ => rfl⟩
  | u :: r => by
    obtain ⟨i1, i2⟩ := pick_get cs v r
    by_cases e : u = v
    · subst e
      rw [List.filterMap_cons]
      refine ⟨fun _ => ?_, fun h => absurd List.mem_cons_self h⟩
      by_cases h0 : aget u cs = 0
      · rw [show ppick cs u = none from if_pos h0]
        simp only
        rcases Classical.em (u ∈ r) with h | h
        · exact i1 h
        · rw [i2 h, h0]
      · rw [show ppick cs u = some (u, aget u cs) from if_neg h0]
        simp only
        rw [aget, if_pos rfl]
    · have e' : aget v ((u :: r).filterMap (ppick cs)) = aget v (r.filterMap (ppick cs)) := by
        rw [List.filterMap_cons]
        by_cases h0 : aget u cs = 0
        · rw [show ppick cs u = none from if_pos h0]
        · rw [show ppick cs u = some (u, aget u cs) from if_neg h0]
          simp only
          rw [aget, if_neg e]
      refine ⟨fun h => ?_, fun h => ?_⟩
      · refine e'.trans ?_
        rcases List.mem_cons.1 h with h | h
        · exact absurd h.symm e
        · exact i1 h
      · refine e'.trans ?_
        exact i2 fun h' => h (List.mem_cons_of_mem _ h')
theorem sortK_lt {cs : List Tm} (h : keysD cs) : (sortK cs).Pairwise ltB := by
  rw [sortK_is, List.pairwise_map]
  have hn : (isort (cs.map fun t => bs t.1)).Nodup := by
    rw [(isort_perm _).nodup_iff]
    unfold keysD at h
    unfold List.Nodup at h ⊢
    rw [List.pairwise_map] at h ⊢
    exact h.imp fun hne e => hne (bs_inj e)
  refine (List.Pairwise.and (isort_sorted (cs.map fun t : Tm => bs t.1)) (show List.Pairwise (fun a b => a ≠ b) _ from hn)).imp ?_
  rintro a b ⟨h1, h2⟩
  unfold ltB
  rw [bs_ofL, bs_ofL]
  rcases Decidable.em (a < b) with h3 | h3
  · exact h3
  · exact absurd (leB_as h1 (decide_eq_true (List.not_lt.1 h3))) h2
theorem sortK_memi {cs : List Tm} {v : ByteArray} : v ∈ sortK cs ↔ v ∈ cs.map (·.1) := by
  rw [sortK_is]
  constructor
  · intro h
    obtain ⟨l, hl, rfl⟩ := List.mem_map.1 h
    rw [(isort_perm _).mem_iff] at hl
    obtain ⟨t, ht, rfl⟩ := List.mem_map.1 hl
    rw [ofL_bs]
    exact List.mem_map_of_mem ht
  · intro h
    obtain ⟨t, ht, rfl⟩ := List.mem_map.1 h
    refine List.mem_map.2 ⟨bs t.1, ?_, ofL_bs _⟩
    rw [(isort_perm _).mem_iff]
    exact List.mem_map.2 ⟨t, ht, rfl⟩
theorem linT_sorted {cs : List Tm} (h : keysD cs) : sortedT (linT cs) := (pick_sorted cs (sortK cs) (sortK_lt h)).1
theorem linT_get (cs : List Tm) (v : ByteArray) : aget v (linT cs) = aget v cs := by
  rcases Classical.em (v ∈ sortK cs) with h | h
  · exact (pick_get cs v (sortK cs)).1 h
  · refine ((pick_get cs v (sortK cs)).2 h).trans (aget_not fun u hu e => ?_).symm
    exact h (sortK_memi.2 (List.mem_map.2 ⟨u, hu, e⟩))

/-! The reference's sums. -/
def insP (s : ByteArray) (c : Int) : List Tm → List Tm
  | [] => [(s, c)]
  | t :: r => if bs s < bs t.1 then (s, c) :: t :: r else if t.1 = s then (s, W (t.2 + c)) :: r else t :: insP s c r
def plusT (s : ByteArray) (c : Int) (l : List Tm) : List Tm := (insP s c l).filter fun t => !decide (t.2 = 0)
def timesT (k : Int) : List Tm → List Tm → List Tm
  | [], l => l
  | t :: r, l => timesT k r (plusT t.1 (W (k * t.2)) l)
def risT : List Tm → Prop
  | [] => True
  | t :: r => (∀ u ∈ r, ltB t.1 u.1) ∧ risT r
theorem insP_mem {s : ByteArray} {c : Int} : ∀ {l : List Tm} {u : Tm}, u ∈ insP s c l → u.1 = s ∨ ∃ w ∈ l, w.1 = u.1
  | [], u, h => by simp [insP] at h; exact Or.inl (by rw [h])
  | t :: r, u, h => by
    unfold insP at h
    split at h
    · rcases List.mem_cons.1 h with rfl | h
      · exact Or.inl rfl
      · exact Or.inr ⟨u, h, rfl⟩
    · split at h
      · rcases List.mem_cons.1 h with rfl | h
        · exact Or.inl rfl
        · exact Or.inr ⟨u, List.mem_cons_of_mem _ h, rfl⟩
      · rcases List.mem_cons.1 h with rfl | h
        · exact Or.inr ⟨u, List.mem_cons_self, rfl⟩
        · rcases insP_mem h with h | ⟨w, hw, e⟩
          · exact Or.inl h
          · exact Or.inr ⟨w, List.mem_cons_of_mem _ hw, e⟩
theorem insP_ris (s : ByteArray) (c : Int) : ∀ {l : List Tm}, risT l → risT (insP s c l)
  | [], _ => ⟨by simp, trivial⟩
  | t :: r, h => by
    unfold insP
    split
    · rename_i hlt
      refine ⟨fun u hu => ?_, h⟩
      rcases List.mem_cons.1 hu with rfl | hu
      · exact hlt
      · exact List.lt_trans hlt (h.1 u hu)
    · rename_i hnl
      split
      · rename_i e
        subst e
        exact ⟨h.1, h.2⟩
      · rename_i hne
        refine ⟨fun u hu => ?_, insP_ris s c h.2⟩
        rcases insP_mem hu with e | ⟨w, hw, e⟩
        · rw [e]
          unfold ltB
          rcases Decidable.em (bs t.1 < bs s) with h3 | h3
          · exact h3
          · exact absurd (bs_inj (List.le_antisymm (List.not_lt.1 hnl) (List.not_lt.1 h3))) hne
        · rw [← e]
          exact h.1 w hw
theorem ris_filter : ∀ {l : List Tm}, risT l → sortedT (l.filter fun t => !decide (t.2 = 0))
  | [], _ => trivial
  | t :: r, h => by
    rw [List.filter_cons]
    split
    · rename_i h0
      exact ⟨fun u hu => h.1 u (List.mem_filter.1 hu).1, by simpa using h0, ris_filter h.2⟩
    · exact ris_filter h.2
theorem sorted_ris : ∀ {l : List Tm}, sortedT l → risT l
  | [], _ => trivial
  | t :: r, h => ⟨h.1, sorted_ris h.2.2⟩
theorem get_filter (v : ByteArray) : ∀ {l : List Tm}, risT l → aget v (l.filter fun t => !decide (t.2 = 0)) = aget v l
  | [], _ => rfl
  | t :: r, h => by
    have ih := get_filter v h.2
    rw [List.filter_cons]
    by_cases h0 : t.2 = 0
    · rw [if_neg (by simp [h0]), ih, aget]
      by_cases e : t.1 = v
      · rw [if_pos e, h0]
        subst e
        exact aget_lt h.1
      · rw [if_neg e]
    · rw [if_pos (by simp [h0]), aget, aget, ih]
theorem insP_get (s : ByteArray) (c : Int) (hc : W c = c) (v : ByteArray) : ∀ {l : List Tm}, risT l → aget v (insP s c l) = if v = s then W (aget s l + c) else aget v l
  | [], _ => by
    show (if s = v then c else 0) = if v = s then W (0 + c) else 0
    by_cases e : s = v
    · rw [if_pos e, if_pos e.symm, Int.zero_add, hc]
    · rw [if_neg e, if_neg fun h => e h.symm]
  | t :: r, h => by
    unfold insP
    split
    · rename_i hlt
      rw [aget]
      by_cases e : s = v
      · have h0 : aget s (t :: r) = 0 := aget_lt fun u hu => by
          rcases List.mem_cons.1 hu with rfl | hu
          · exact hlt
          · exact List.lt_trans hlt (h.1 u hu)
        rw [if_pos e, if_pos e.symm, h0, Int.zero_add, hc]
      · rw [if_neg e, if_neg fun h => e h.symm]
    · split
      · rename_i e0
        subst e0
        rw [aget, aget, if_pos rfl]
        by_cases e : t.1 = v
        · rw [if_pos e, if_pos e.symm]
        · rw [if_neg e, if_neg fun h => e h.symm, aget, if_neg e]
      · rename_i hne
        have ih := insP_get s c hc v h.2
        rw [aget, ih, aget, if_neg hne, aget]
        by_cases e : t.1 = v
        · rw [if_pos e, if_pos e, if_neg fun h => hne (e.trans h)]
        · rw [if_neg e, if_neg e]
theorem plus_sorted (s : ByteArray) (c : Int) {l : List Tm} (h : sortedT l) : sortedT (plusT s c l) := ris_filter (insP_ris s c (sorted_ris h))
theorem plus_get (s : ByteArray) (c : Int) (hc : W c = c) (v : ByteArray) {l : List Tm} (h : sortedT l) : aget v (plusT s c l) = if v = s then W (aget s l + c) else aget v l := by
  unfold plusT
  rw [get_filter v (insP_ris s c (sorted_ris h)), insP_get s c hc v (sorted_ris h)]
theorem aput_get (s : ByteArray) (x : Int) (v : ByteArray) : ∀ (cs : List Tm), aget v (aput s x cs) = if v = s then x else aget v cs
  | [] => by
    show (if s = v then x else 0) = if v = s then x else 0
    by_cases e : s = v
    · rw [if_pos e, if_pos e.symm]
    · rw [if_neg e, if_neg fun h => e h.symm]
  | t :: r => by
    unfold aput
    split
    · rename_i e0
      rw [aget]
      by_cases e : s = v
      · rw [if_pos e, if_pos e.symm]
      · rw [if_neg e, if_neg fun h => e h.symm, aget, if_neg (e0 ▸ e)]
    · rename_i hne
      rw [aget, aput_get s x v r, aget]
      by_cases e : t.1 = v
      · rw [if_pos e, if_pos e, if_neg fun h => hne (e.trans h)]
      · rw [if_neg e, if_neg e]
theorem W_W (x : Int) : W (W x) = W x := by
  show IntKind.i64.wrap (IntKind.i64.wrap x) = IntKind.i64.wrap x
  apply wrap_in <;> (rw [IntKind.wrap_i64]; omega)
theorem times_get (k : Int) : ∀ (ts : List Tm) {l cs : List Tm}, sortedT l → (∀ v, aget v l = aget v cs) → sortedT (timesT k ts l) ∧ ∀ v, aget v (timesT k ts l) = aget v (addT k ts cs)
  | [], l, cs, h, he => ⟨h, he⟩
  | t :: r, l, cs, h, he => by
    refine times_get k r (plus_sorted t.1 (W (k * t.2)) h) fun v => ?_
    rw [plus_get t.1 (W (k * t.2)) (W_W _) v h, aput_get, he, he]
theorem times_is (k : Int) (ts : List Tm) {l cs : List Tm} (h : sortedT l) (hc : keysD cs) (he : ∀ v, aget v l = aget v cs) : timesT k ts l = linT (addT k ts cs) := by
  obtain ⟨h1, h2⟩ := times_get k ts h he
  exact sorted_same h1 (linT_sorted (addT_d k ts hc)) fun v => by rw [h2, linT_get]
theorem ltS_is (a b : ByteArray) : ltS a b = true ↔ ltB a b := by
  unfold ltS ltB
  rw [lessS]
  exact decide_eq_true_iff
theorem terms_sorted : ∀ (ts : List Tm) (p : Option ByteArray), termsE p ts = true → sortedT ts ∧ (∀ q, p = some q → ∀ u ∈ ts, ltB q u.1) ∧ ∀ u ∈ ts, fitsI u.2 = true ∧ nameE u.1 = true
  | [], p, _ => ⟨trivial, fun _ _ u hu => (by cases hu), fun u hu => (by cases hu)⟩
  | t :: r, p, h => by
    rw [termsE_cons] at h
    simp only [Bool.and_eq_true, Bool.not_eq_true', decide_eq_false_iff_not] at h
    obtain ⟨h0, hf, hn, hp, hr⟩ := h
    obtain ⟨i1, i2, i3⟩ := terms_sorted r (some t.1) hr
    refine ⟨⟨i2 t.1 rfl, h0, i1⟩, fun q hq u hu => ?_, fun u hu => ?_⟩
    · subst hq
      have h1 := (ltS_is q t.1).1 hp
      rcases List.mem_cons.1 hu with rfl | hu
      · exact h1
      · exact List.lt_trans h1 (i2 t.1 rfl u hu)
    · rcases List.mem_cons.1 hu with rfl | hu
      · exact ⟨hf, hn⟩
      · exact i3 u hu
theorem fits_W {x : Int} (h : fitsI x = true) : W x = x := by
  simp [fitsI] at h
  exact wrap_in (by omega) (by omega)
theorem valid_parts {c : Int} {ts : List Tm} (h : validE c ts = true) : fitsI c = true ∧ ts.length ≤ 12 ∧ sortedT ts ∧ ∀ u ∈ ts, fitsI u.2 = true ∧ nameE u.1 = true := by
  unfold validE at h
  simp only [Bool.and_eq_true, decide_eq_true_eq] at h
  obtain ⟨h1, h2, h3⟩ := h
  obtain ⟨h4, _, h5⟩ := terms_sorted ts none h3
  exact ⟨h1, h2, h4, h5⟩
theorem add_one (v : ByteArray) : ∀ (ts : List Tm) {cs : List Tm}, sortedT ts → (∀ u ∈ ts, fitsI u.2 = true) → (∀ u ∈ ts, aget u.1 cs = 0) → aget v (addT 1 ts cs) = aget v ts + aget v cs
  | [], cs, _, _, _ => by simp [addT, aget]
  | t :: r, cs, h, hw, hz => by
    have e : W (aget t.1 cs + W (1 * t.2)) = t.2 := by
      rw [hz t List.mem_cons_self, Int.one_mul, Int.zero_add, fits_W (hw t List.mem_cons_self), fits_W (hw t List.mem_cons_self)]
    have ih := add_one v r (cs := aput t.1 t.2 cs) h.2.2 (fun u hu => hw u (List.mem_cons_of_mem _ hu)) fun u hu => by
      rw [aput_get, if_neg]
      · exact hz u (List.mem_cons_of_mem _ hu)
      · intro e
        have := h.1 u hu
        rw [e] at this
        exact ltB_irr _ this
    rw [addT, e, ih, aput_get, aget]
    by_cases ev : t.1 = v
    · subst ev
      rw [if_pos rfl, if_pos rfl, aget_lt h.1, hz t List.mem_cons_self]
      omega
    · rw [if_neg ev, if_neg fun e => ev e.symm]
def limE (l : Int × List Tm) : (Int × List Tm) × Int := if validE l.1 l.2 = true then (l, 0) else ((0, []), 3)
def timesE (l x : Int × List Tm) (k : Int) : Int × List Tm := (W (l.1 + W (k * x.1)), timesT k x.2 l.2)
theorem combine_is {a b : Int × List Tm} (k : Int) (ha : validE a.1 a.2 = true) (hb : validE b.1 b.2 = true) : combineE a b k = limE (timesE a b k) := by
  obtain ⟨f1, _, s1, w1⟩ := valid_parts ha
  unfold combineE
  rw [ha, hb, if_neg (by simp)]
  have e1 : addC 0 1 a.1 = a.1 := by
    unfold addC
    rw [Int.one_mul, Int.zero_add, fits_W f1, fits_W f1]
  have e2 : linT (addT k b.2 (addT 1 a.2 [])) = timesT k b.2 a.2 := (times_is k b.2 s1 (addT_d 1 a.2 (cs := []) (by simp [keysD])) fun v => by rw [add_one v a.2 s1 (fun u hu => (w1 u hu).1) fun u hu => rfl]; simp [aget]).symm
  unfold linearE limE timesE
  rw [e1, e2]
  rfl
abbrev hitV (v : ByteArray) (b : Tm) : Bool := b.1.toList == v.toList
def evalL (vs : List Tm) : List Tm → Int → Int × Int
  | [], n => (n, 0)
  | t :: r, n => match vs.find? (hitV t.1) with
    | none => (0, 7)
    | some b => if b.2 < -1000000000 ∨ 1000000000 < b.2 then (0, 2) else evalL vs r (W (n + W (t.2 * b.2)))
def evalE (c : Int) (ts vs : List Tm) : Int × Int := if validE c ts = true then evalL vs ts c else (0, 1)
/-- What the first loop of Plus has made behind some terms, and whether the new one is there. -/
def half (s : ByteArray) (x : Int) (ts : List Tm) (i : Nat) (put : Bool) (o : List Tm) : Prop :=
  (i = 0 ↔ o = []) ∧ o.length ≤ 2 * i ∧ ((put = false ∧ insP s x ts = o ++ insP s x (ts.drop i)) ∨ (put = true ∧ insP s x ts = o ++ ts.drop i ∧ ∀ u ∈ ts.drop i, ltB s u.1))
theorem half_0 (s : ByteArray) (x : Int) (ts : List Tm) : half s x ts 0 false [] := ⟨by simp, by simp, Or.inl ⟨rfl, rfl⟩⟩
theorem ris_drop : ∀ {ts : List Tm} (i : Nat), risT ts → risT (ts.drop i)
  | [], i, h => by rw [List.drop_nil]; exact h
  | t :: r, 0, h => h
  | t :: r, i + 1, h => ris_drop (ts := r) i h.2
section
variable {s : ByteArray} {x : Int} {ts : List Tm} {i : Nat} {o : List Tm} {t : Tm} (hr : risT ts) (ht : ts[i]? = some t)
include hr ht
theorem drop_t : ts.drop i = t :: ts.drop (i + 1) ∧ ∀ u ∈ ts.drop (i + 1), ltB t.1 u.1 := by
  obtain ⟨h1, rfl⟩ := List.getElem?_eq_some_iff.1 ht
  have h2 := List.drop_eq_getElem_cons h1
  have h3 := ris_drop i hr
  rw [h2] at h3
  exact ⟨h2, h3.1⟩
theorem half_less (h : half s x ts i false o) (hl : ltB s t.1) : half s x ts (i + 1) true (o ++ [(s, x), t]) := by
  obtain ⟨h1, h2, h3⟩ := h
  obtain ⟨e, d⟩ := drop_t hr ht
  refine ⟨by simp, by simp; omega, Or.inr ⟨rfl, ?_, fun u hu => List.lt_trans hl (d u hu)⟩⟩
  rcases h3 with ⟨_, h3⟩ | ⟨h3, _⟩
  · rw [h3, e, insP, if_pos (show bs s < bs t.1 from hl)]; simp
  · cases h3
theorem half_same (h : half s x ts i false o) (hl : ¬ ltB s t.1) (he : t.1 = s) : half s x ts (i + 1) true (o ++ [(s, W (t.2 + x))]) := by
  obtain ⟨h1, h2, h3⟩ := h
  obtain ⟨e, d⟩ := drop_t hr ht
  subst he
  refine ⟨by simp, by simp; omega, Or.inr ⟨rfl, ?_, d⟩⟩
  rcases h3 with ⟨_, h3⟩ | ⟨h3, _⟩
  · rw [h3, e, insP, if_neg (show ¬ bs t.1 < bs t.1 from hl), if_pos rfl]; simp
  · cases h3
theorem half_more (h : half s x ts i false o) (hl : ¬ ltB s t.1) (he : ¬ t.1 = s) : half s x ts (i + 1) false (o ++ [t]) := by
  obtain ⟨h1, h2, h3⟩ := h
  obtain ⟨e, d⟩ := drop_t hr ht
  refine ⟨by simp, by simp; omega, Or.inl ⟨rfl, ?_⟩⟩
  rcases h3 with ⟨_, h3⟩ | ⟨h3, _⟩
  · rw [h3, e, insP, if_neg (show ¬ bs s < bs t.1 from hl), if_neg he]; simp
  · cases h3
theorem half_put (h : half s x ts i true o) : ltB s t.1 ∧ half s x ts (i + 1) true (o ++ [t]) := by
  obtain ⟨h1, h2, h3⟩ := h
  obtain ⟨e, d⟩ := drop_t hr ht
  rcases h3 with ⟨h3, _⟩ | ⟨_, h3, h4⟩
  · cases h3
  · have hs := h4 t (by rw [e]; exact List.mem_cons_self)
    refine ⟨hs, by simp, by simp; omega, Or.inr ⟨rfl, by rw [h3, e]; simp, fun u hu => List.lt_trans hs (d u hu)⟩⟩
end
theorem half_end {s : ByteArray} {x : Int} {ts : List Tm} {i : Nat} {o : List Tm} {put : Bool} (hi : ts.length ≤ i) (h : half s x ts i put o) : insP s x ts = if put = true then o else o ++ [(s, x)] := by
  have e : ts.drop i = [] := List.drop_eq_nil_of_le hi
  obtain ⟨_, _, h3⟩ := h
  rw [e] at h3
  rcases h3 with ⟨rfl, h3⟩ | ⟨rfl, h3, _⟩
  · rw [h3]; rfl
  · rw [h3]; simp
/-- The terms packed in place: the first k are those that stay of the first i. -/
def pk (p : List Tm) (k i : Nat) (q : List Tm) : Prop := k ≤ i ∧ i ≤ p.length ∧ q.length = p.length ∧ q.take k = (p.take i).filter (fun t => !decide (t.2 = 0)) ∧ q.drop i = p.drop i
theorem pk_0 (p : List Tm) : pk p 0 0 p := ⟨Nat.le_refl _, Nat.zero_le _, rfl, rfl, rfl⟩
section
variable {p q : List Tm} {k i : Nat} {t : Tm} (h : pk p k i q) (ht : p[i]? = some t)
include h ht
theorem pk_get : q[i]? = some t := by
  have e := congrArg (fun l => l[0]?) h.2.2.2.2
  simp only [List.getElem?_drop, Nat.add_zero] at e
  rw [e, ht]
theorem pk_take : p.take (i + 1) = p.take i ++ [t] := by
  obtain ⟨h1, rfl⟩ := List.getElem?_eq_some_iff.1 ht
  exact (List.take_append_getElem h1).symm
theorem pk_drop (h0 : t.2 = 0) : pk p k (i + 1) q := by
  obtain ⟨h1, h2, h3, h4, h5⟩ := h
  have hl := (List.getElem?_eq_some_iff.1 ht).1
  refine ⟨by omega, by omega, h3, ?_, ?_⟩
  · rw [pk_take ⟨h1, h2, h3, h4, h5⟩ ht, List.filter_append, h4]
    simp [h0]
  · rw [← List.drop_drop, h5, List.drop_drop]
theorem pk_keep (h0 : ¬ t.2 = 0) : pk p (k + 1) (i + 1) (q.set k t) := by
  have e := pk_take h ht
  obtain ⟨h1, h2, h3, h4, h5⟩ := h
  have hl := (List.getElem?_eq_some_iff.1 ht).1
  refine ⟨by omega, by omega, by rw [List.length_set, h3], ?_, ?_⟩
  · rw [e, List.filter_append, ← h4]
    have hk : k < (q.set k t).length := by rw [List.length_set]; omega
    rw [← List.take_append_getElem hk, List.take_set_of_le (Nat.le_refl _), List.getElem_set_self]
    simp [h0]
  · rw [List.drop_set_of_lt (by omega), ← List.drop_drop, h5, List.drop_drop]
end
theorem pk_end {p q : List Tm} {k i : Nat} (h : pk p k i q) (hi : p.length ≤ i) : q.take k = p.filter (fun t => !decide (t.2 = 0)) := by
  rw [h.2.2.2.1, List.take_of_length_le hi]
set_option maxHeartbeats 2000000 in
theorem fits_b {x : Int} (h : fitsI x = true) : -1000000 ≤ x ∧ x ≤ 1000000 := by simpa [fitsI] using h
theorem addT_get (k : Int) (v : ByteArray) : ∀ (ts : List Tm) {cs : List Tm}, sortedT ts → W (aget v cs) = aget v cs → aget v (addT k ts cs) = W (aget v cs + W (k * aget v ts))
  | [], cs, _, hw => by
    rw [addT, aget, Int.mul_zero, show W 0 = 0 from rfl, Int.add_zero, hw]
  | t :: r, cs, h, hw => by
    have hp := aput_get t.1 (W (aget t.1 cs + W (k * t.2))) v cs
    by_cases e : v = t.1
    · rw [if_pos e] at hp
      have ih := addT_get k v r (cs := aput t.1 (W (aget t.1 cs + W (k * t.2))) cs) h.2.2 (by rw [hp, W_W])
      rw [addT, ih, hp, aget, if_pos e.symm, show aget v r = 0 from e ▸ aget_lt h.1, Int.mul_zero, show W 0 = 0 from rfl, Int.add_zero, W_W, e]
    · rw [if_neg e] at hp
      have ih := addT_get k v r (cs := aput t.1 (W (aget t.1 cs + W (k * t.2))) cs) h.2.2 (by rw [hp, hw])
      rw [addT, ih, hp, aget, if_neg fun e' => e e'.symm]
theorem times_S (k : Int) {a b : Int × List Tm} (ha : sortedT a.2) : sortedT (timesE a b k).2 := (times_get k b.2 ha fun _ => rfl).1
/-- The number of the constant, or of a variable. -/
def F (l : Int × List Tm) : Option ByteArray → Int
  | none => l.1
  | some v => aget v l.2
structure G (l : Int × List Tm) : Prop where
  s : sortedT l.2
  f : ∀ o, fitsI (F l o) = true
/-! Values, modulo the number of integers. -/
def cg (x y : Int) : Prop := ∃ q, x = y + q * 18446744073709551616
theorem cg.rfl' (x : Int) : cg x x := ⟨0, by omega⟩
theorem cg.of_eq {x y : Int} (h : x = y) : cg x y := h ▸ cg.rfl' x
theorem cg.symm {x y : Int} : cg x y → cg y x := fun ⟨q, h⟩ => ⟨-q, by omega⟩
theorem cg.trans {x y z : Int} : cg x y → cg y z → cg x z := fun ⟨q, h⟩ ⟨p, g⟩ => ⟨q + p, by omega⟩
theorem cg.add {x y z u : Int} : cg x y → cg z u → cg (x + z) (y + u) := fun ⟨q, h⟩ ⟨p, g⟩ => ⟨q + p, by omega⟩
theorem cg.sub {x y z u : Int} : cg x y → cg z u → cg (x - z) (y - u) := fun ⟨q, h⟩ ⟨p, g⟩ => ⟨q - p, by omega⟩
theorem cg_W (x : Int) : cg (W x) x := by
  have h := IntKind.wrap_i64 x
  refine ⟨(IntKind.i64.wrap x - x) / 18446744073709551616, ?_⟩
  show IntKind.i64.wrap x = x + _
  omega
theorem cg_eq {x y : Int} (h : cg x y) (hx : W x = x) (hy : W y = y) : x = y := by
  obtain ⟨q, h⟩ := h
  have h1 := IntKind.wrap_i64 x
  have h2 := IntKind.wrap_i64 y
  have h3 : IntKind.i64.wrap x = x := hx
  have h4 : IntKind.i64.wrap y = y := hy
  omega
section
variable (val : ByteArray → Int)
def E : List Tm → Int
  | [] => 0
  | t :: r => t.2 * val t.1 + E r
theorem E_filter : ∀ l : List Tm, E val (l.filter fun t => !decide (t.2 = 0)) = E val l
  | [] => rfl
  | t :: r => by
    rw [List.filter_cons]
    by_cases h0 : t.2 = 0
    · rw [if_neg (by simp [h0]), E_filter r, E, h0, Int.zero_mul, Int.zero_add]
    · rw [if_pos (by simp [h0]), E, E, E_filter r]
/-- The value of an expression. -/
def V (l : Int × List Tm) : Int := l.1 + E val l.2
end
theorem plus_all {P : ByteArray → Prop} {s : ByteArray} {x : Int} {l : List Tm} (hs : P s) (h : ∀ u ∈ l, P u.1) : ∀ u ∈ plusT s x l, P u.1 := fun u hu => by
  rcases insP_mem (List.mem_filter.1 hu).1 with e | ⟨w, hw, e⟩
  · rw [e]; exact hs
  · rw [← e]; exact h w hw
theorem times_all {P : ByteArray → Prop} (k : Int) : ∀ (ts : List Tm) {l : List Tm}, (∀ u ∈ l, P u.1) → (∀ u ∈ ts, P u.1) → ∀ u ∈ timesT k ts l, P u.1
  | [], l, h, _ => h
  | t :: r, l, h, ht => times_all k r (plus_all (ht t List.mem_cons_self) h) fun u hu => ht u (List.mem_cons_of_mem _ hu)
theorem insP_len (s : ByteArray) (x : Int) : ∀ l : List Tm, (insP s x l).length ≤ l.length + 1
  | [] => by simp [insP]
  | t :: r => by
    unfold insP
    split
    · simp
    · split
      · simp
      · simpa using insP_len s x r
theorem plus_len (s : ByteArray) (x : Int) (l : List Tm) : (plusT s x l).length ≤ l.length + 1 := Nat.le_trans (List.length_filter_le _ _) (insP_len s x l)
set_option maxHeartbeats 1000000 in
def addR (a b : Int × List Tm) (k : Int) : (Int × List Tm) × Int := if validE a.1 a.2 = true ∧ validE b.1 b.2 = true then limE (timesE a b k) else ((0, []), 1)
theorem addR_is (a b : Int × List Tm) (k : Int) : combineE a b k = addR a b k := by
  unfold addR
  split
  · rename_i h; exact combine_is k h.1 h.2
  · rename_i h
    unfold combineE
    rw [if_pos]
    cases h1 : validE a.1 a.2 <;> cases h2 : validE b.1 b.2 <;> simp_all
theorem timesT_len (k : Int) : ∀ (ts l : List Tm), (timesT k ts l).length ≤ l.length + ts.length
  | [], l => by simp [timesT]
  | t :: r, l => by
    have h1 := timesT_len k r (plusT t.1 (W (k * t.2)) l)
    have h2 := plus_len t.1 (W (k * t.2)) l
    simp only [timesT, List.length_cons]
    omega
theorem v0 : validE 0 [] = true := rfl
/-- The value that a list of values gives a variable. -/
def valOf (vs : List Tm) (v : ByteArray) : Int := match vs.find? (hitV v) with | some b => b.2 | none => 0
/-- A variable has a value within the limits. -/
def has (vs : List Tm) (v : ByteArray) : Prop := ∃ b, vs.find? (hitV v) = some b ∧ -1000000000 ≤ b.2 ∧ b.2 ≤ 1000000000
theorem has_val {vs : List Tm} {v : ByteArray} (h : has vs v) : ∃ b, vs.find? (hitV v) = some b ∧ -1000000000 ≤ b.2 ∧ b.2 ≤ 1000000000 ∧ valOf vs v = b.2 := by
  obtain ⟨b, h1, h2, h3⟩ := h
  exact ⟨b, h1, h2, h3, by unfold valOf; rw [h1]⟩
theorem evalL_V (vs : List Tm) : ∀ (ts : List Tm) (n : Int), (∀ u ∈ ts, has vs u.1) → W n = n → ∃ m, evalL vs ts n = (m, 0) ∧ W m = m ∧ cg m (n + E (valOf vs) ts)
  | [], n, _, hw => ⟨n, rfl, hw, cg.of_eq (by rw [E]; omega)⟩
  | t :: r, n, h, hw => by
    obtain ⟨b, h1, h2, h3, h4⟩ := has_val (h t List.mem_cons_self)
    obtain ⟨m, e, w, c⟩ := evalL_V vs r (W (n + W (t.2 * b.2))) (fun u hu => h u (List.mem_cons_of_mem _ hu)) (W_W _)
    refine ⟨m, ?_, w, ?_⟩
    · rw [evalL, h1]
      simp only
      rw [if_neg (by omega)]
      exact e
    · rw [E, h4]
      exact c.trans ((((cg_W _).trans ((cg.rfl' n).add (cg_W _))).add (cg.rfl' _)).trans (cg.of_eq (by omega)))
/-- The value of a valid expression whose variables have values. -/
theorem evalE_V {vs : List Tm} {l : Int × List Tm} (hv : validE l.1 l.2 = true) (h : ∀ u ∈ l.2, has vs u.1) : ∃ m, evalE l.1 l.2 vs = (m, 0) ∧ W m = m ∧ cg m (V (valOf vs) l) := by
  unfold evalE
  rw [if_pos hv]
  exact evalL_V vs l.2 l.1 h (fits_W (valid_parts hv).1)
theorem name_size {s : ByteArray} (h : nameE s = true) : s.size ≤ 30 := by
  rw [← bs_size]
  unfold nameE nameL at h
  split at h
  · simp only [Bool.and_eq_true, decide_eq_true_eq] at h
    omega
  · simp only [Bool.and_eq_true, decide_eq_true_eq] at h
    omega
theorem addR_v {a b : Int × List Tm} {k : Int} (ha : validE a.1 a.2 = true) (hb : validE b.1 b.2 = true) : addR a b k = limE (timesE a b k) := if_pos ⟨ha, hb⟩
theorem lim_yes {l : Int × List Tm} (h : validE l.1 l.2 = true) : limE l = (l, 0) := if_pos h
theorem lim_no {l : Int × List Tm} (h : validE l.1 l.2 = false) : limE l = ((0, []), 3) := if_neg (by simp [h])
theorem lim_valid {l : Int × List Tm} (h : (limE l).2 = 0) : validE l.1 l.2 = true := by
  cases hv : validE l.1 l.2 with
  | true => rfl
  | false => rw [lim_no hv] at h; cases h
end Go.Proofs.Ytgjamefpphhobaa.LM
