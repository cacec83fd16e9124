/- What comes in as a parameter of any type without pointers, as the walk over values knows it. -/
import Derived.Test.YtgjamefpphhobaaEngIn
namespace Go.Proofs.Ytgjamefpphhobaa
set_option linter.unusedVariables false
open Go.RowKit Go.WideShapes Go.ChangeShapes Go.Proofs.Ytgjamefpphhobaa.Eng

/-- Cells one behind the other, of some types. -/
def FitsL (Q : TypeId → List AV → Prop) : List TypeId → List AV → Prop
  | [], x => x = []
  | t :: ts, x => ∃ a b, x = a ++ b ∧ Q t a ∧ FitsL Q ts b
/-- What values of a type are to the walk: their cells. -/
def Fits (P : Program) : Nat → TypeId → List AV → Prop
  | 0, _, _ => False
  | n + 1, t, x =>
    match P.underlying t with
    | some .bool => ∃ b, x = [.c (.bool b)]
    | some (.int k) => ∃ i, x = [.c (.int k i)] ∧ (Lit.int k i).wf = true
    | some .string => ∃ s, x = [.c (.string s)] ∧ s.size ≤ maxLen
    | some (.slice e) => (P.cellsOf e = 0 ∧ x = [.junk]) ∨ ∃ es, x = [.sl false (P.cellsOf e) es] ∧ es.length ≤ maxLen ∧ ∀ a ∈ es, Fits P n e a
    | some (.struct fs) => FitsL (Fits P n) (fs.toList.map (·.type)) x
    | some (.array m e) => FitsL (Fits P n) (List.replicate m e) x
    | _ => True
theorem repDL_app {ok : Nat → Prop} {w : World} : ∀ {a : List AV} {b : List AV} {x y : List Value}, RepDL ok w a x → RepDL ok w b y → RepDL ok w (a ++ b) (x ++ y)
  | [], b, x, y, h1, h2 => by cases (show x = [] from h1); exact h2
  | u :: a, b, x, y, ⟨v, vs, e, h1, h2⟩, h3 => by subst e; exact ⟨v, vs ++ y, rfl, h1, repDL_app h2 h3⟩
theorem repCs_of {ok : Nat → Prop} {w : World} {b : Nat} : ∀ {a : List AV} {x : List Value} {o : Nat}, RepDL ok w a x → (∀ u ∈ x, u.oneCell' = true) → (∀ j, j < x.length → w.cell? ⟨b, o + j, none⟩ = x[j]?) → RepCs ok w b o a
  | [], x, o, _, _, _ => trivial
  | u :: a, x, o, ⟨v, vs, e, h1, h2⟩, h3, h4 => by
    subst e
    refine ⟨⟨v, h4 0 (by simp), h3 v (by simp), h1⟩, repCs_of h2 (fun u hu => h3 u (List.mem_cons_of_mem _ hu)) fun j hj => ?_⟩
    have := h4 (j + 1) (by simpa using hj)
    rw [show o + 1 + j = o + (j + 1) by omega, this]
    simp
theorem repEs_of {ok : Nat → Prop} {w : World} {b st : Nat} : ∀ (es : List (List AV)) (o : Nat), (∀ i (h : i < es.length), es[i].length = st ∧ RepCs ok w b (o + i * st) es[i]) → RepEs ok w st b o es
  | [], o, _ => trivial
  | e :: es, o, h => by
    have h0 := h 0 (by simp)
    simp only [Nat.zero_mul, Nat.add_zero, List.getElem_cons_zero] at h0
    refine ⟨h0.1, h0.2, repEs_of es (o + st) fun i hi => ?_⟩
    have := h (i + 1) (by simpa using hi)
    rw [show o + st + i * st = o + (i + 1) * st by rw [Nat.add_mul]; omega]
    simpa using this
theorem pick_list {α : Type} {R : Nat → α → Prop} : ∀ (n : Nat), (∀ i, i < n → ∃ x, R i x) → ∃ l : List α, l.length = n ∧ ∀ i (h : i < l.length), R i l[i]
  | 0, _ => ⟨[], rfl, fun i h => by simp at h⟩
  | n + 1, h => by
    obtain ⟨l, h1, h2⟩ := pick_list n fun i hi => h i (by omega)
    obtain ⟨x, hx⟩ := h n (by omega)
    refine ⟨l ++ [x], by simp [h1], fun i hi => ?_⟩
    by_cases hl : i < l.length
    · rw [List.getElem_append_left hl]; exact h2 i hl
    · have : i = n := by simp at hi; omega
      subst this
      rw [List.getElem_append_right (by omega)]
      simpa [h1] using hx
section
variable {P : Program} {ok : Nat → Prop} {w : World}
/-- Cells are what the walk knows. -/
def Known (ok : Nat → Prop) (w : World) (x : List AV) (cs : List Value) : Prop := x.length = cs.length ∧ RepDL ok w x cs ∧ ∀ u ∈ cs, u.oneCell' = true
theorem known_app {a b : List AV} {x y : List Value} (h1 : Known ok w a x) (h2 : Known ok w b y) : Known ok w (a ++ b) (x ++ y) :=
  ⟨by rw [List.length_append, List.length_append, h1.1, h2.1], repDL_app h1.2.1 h2.2.1, fun u hu => (List.mem_append.1 hu).elim (h1.2.2 u) (h2.2.2 u)⟩
theorem known_one {a : AV} {v : Value} (h : RepD ok w a v) (h1 : v.oneCell' = true) : Known ok w [a] [v] := ⟨rfl, ⟨v, [], rfl, h, rfl⟩, fun u hu => by simp at hu; subst hu; exact h1⟩
theorem pieces {Q : TypeId → List AV → Prop} : ∀ (ts : List TypeId) (cs : List Value), cs.length = (ts.map P.cellsOf).sum →
    (∀ j t, ts[j]? = some t → ∃ x, Q t x ∧ Known ok w x ((cs.drop ((ts.take j).map P.cellsOf).sum).take (P.cellsOf t))) → ∃ x, FitsL Q ts x ∧ Known ok w x cs
  | [], cs, hl, _ => by
    obtain rfl : cs = [] := List.length_eq_zero_iff.1 (by simpa using hl)
    exact ⟨[], rfl, rfl, rfl, fun u hu => by cases hu⟩
  | t :: ts, cs, hl, h => by
    obtain ⟨x, q, k⟩ := h 0 t rfl
    simp only [List.take_zero, List.map_nil, List.sum_nil, List.drop_zero] at k
    simp only [List.map_cons, List.sum_cons] at hl
    obtain ⟨y, q2, k2⟩ := pieces ts (cs.drop (P.cellsOf t)) (by rw [List.length_drop]; omega) fun j u hu => by
      obtain ⟨z, q3, k3⟩ := h (j + 1) u (by simpa using hu)
      refine ⟨z, q3, ?_⟩
      rw [List.drop_drop]
      simpa [List.take_succ_cons] using k3
    refine ⟨x ++ y, ⟨x, y, rfl, q, q2⟩, ?_⟩
    have := known_app k k2
    rwa [List.take_append_drop] at this
theorem rep_sum (m c : Nat) : ((List.replicate m c).map fun x => x).sum = m * c := by
  rw [List.map_id']
  induction m with
  | zero => simp
  | succ m ih => rw [List.replicate_succ, List.sum_cons, ih, Nat.add_mul]; omega
variable {H : Type} {enc : TypeId × Value → H}
theorem one_known {cs : List Value} {v : Value} (h : cs = [v]) (h1 : v.oneCell' = true) : Known ok w [.junk] cs := by subst h; exact known_one trivial h1
set_option maxHeartbeats 1000000 in
theorem in_any (hL : laidOutB P = true) : ∀ (n : Nat) (t : TypeId) (cs : List Value) (x : DataW H × List MemPlace), isVar P t = true → DataW.trod enc P w 0 (fun _ => true) true n t cs = some x → ∃ a, Fits P n t a ∧ Known (fun b => b < w.heap.size) w a cs
  | 0, t, cs, x, _, h => by simp [DataW.trod] at h
  | n + 1, t, cs, x, hv, h => by
    have hrow : rowFine P t = true := by
      unfold laidOutB at hL
      simp only [Bool.and_eq_true] at hL
      have h1 := List.all_eq_true.1 hL.1.1 t
      unfold isVar at hv
      simp only [Bool.and_eq_true, decide_eq_true_eq] at hv
      exact h1 (List.mem_range.2 hv.1)
    unfold rowFine at hrow
    rw [hv] at hrow
    simp only [Bool.not_true, Bool.false_or] at hrow
    unfold Fits
    cases hu : P.underlying t with
    | none => unfold DataW.trod at h; rw [hu] at h; simp at h
    | some d =>
      rw [hu] at hrow
      cases d with
      | bool =>
        obtain ⟨b, rfl, _⟩ := DataW.trod_bool hu h
        exact ⟨_, ⟨b, rfl⟩, known_one rfl rfl⟩
      | int k =>
        obtain ⟨b, rfl, _, hw⟩ := DataW.trod_int hu h
        exact ⟨_, ⟨b, rfl, hw⟩, known_one rfl rfl⟩
      | string =>
        obtain ⟨b, rfl, _, hw⟩ := DataW.trod_string hu h
        exact ⟨_, ⟨b, rfl, hw⟩, known_one rfl rfl⟩
      | struct fs =>
        simp only [Bool.and_eq_true, beq_iff_eq] at hrow
        obtain ⟨⟨hf, hc⟩, ho⟩ := hrow
        obtain ⟨xs, m, em, _, hl, hlen, hff⟩ := DataW.trod_struct hu h
        have em2 : m = n := by omega
        rw [em2] at hff
        refine pieces (fs.toList.map (·.type)) cs (by rw [hl, hc, List.map_map]; rfl) fun j t' hj => ?_
        rw [List.getElem?_map] at hj
        cases hfj : fs.toList[j]? with
        | none => rw [hfj] at hj; cases hj
        | some f =>
          rw [hfj] at hj
          cases hj
          have hlt : j < fs.toList.length := (List.getElem?_eq_some_iff.1 hfj).1
          have h1 := hff j f (by simpa using hfj)
          rw [List.getElem?_eq_getElem (by rw [hlen]; simpa using hlt)] at h1
          have h2 := List.all_eq_true.1 ho j (List.mem_range.2 hlt)
          rw [hfj] at h2
          simp only [beq_iff_eq] at h2
          rw [h2] at h1
          obtain ⟨a, q, k⟩ := in_any hL n f.type _ _ (List.all_eq_true.1 hf f (List.mem_of_getElem? hfj)) h1
          refine ⟨a, q, ?_⟩
          rw [← List.map_take, List.map_map]
          exact k
      | array m e =>
        simp only [Bool.and_eq_true, beq_iff_eq] at hrow
        obtain ⟨xs, m', em, _, hl, hlen, hff⟩ := DataW.trod_array hu h
        have em2 : m' = n := by omega
        rw [em2] at hff
        refine pieces (List.replicate m e) cs (by rw [hl, hrow.2, List.map_replicate, ← rep_sum, List.map_id']) fun j t' hj => ?_
        have hjm : j < m := by have := (List.getElem?_eq_some_iff.1 hj).1; simpa using this
        obtain rfl : e = t' := by rw [List.getElem?_replicate, if_pos hjm] at hj; exact Option.some.inj hj
        have h1 := hff j hjm
        rw [List.getElem?_eq_getElem (by omega)] at h1
        obtain ⟨a, q, k⟩ := in_any hL n e _ _ hrow.1 h1
        refine ⟨a, q, ?_⟩
        rw [List.take_replicate, Nat.min_eq_left (by omega), List.map_replicate, ← List.map_id' (List.replicate _ _), rep_sum]
        exact k
      | slice e =>
        simp only [Bool.and_eq_true, beq_iff_eq] at hrow
        rcases DataW.trod_slice hu h with ⟨rfl, _⟩ | ⟨a, len, cap, elems, rest, m, em, rfl, _, hb, hl, hm, hlen, hel, _, _⟩
        · exact ⟨_, Or.inr ⟨[], rfl, by simp, fun a ha => by cases ha⟩, known_one ⟨none, 0, rfl, ⟨fun h => (by cases h), fun _ => rfl, Nat.le_refl _⟩, fun h0 => by simp at h0⟩ rfl⟩
        · have em2 : m = n := by omega
          rw [em2] at hel
          by_cases hc0 : P.cellsOf e = 0
          · exact ⟨_, Or.inl ⟨hc0, rfl⟩, known_one trivial rfl⟩
          have one : ∀ i, i < len → ∃ r : List AV, Fits P n e r ∧ ∃ cs, cs.length = P.cellsOf e ∧ (∀ j, j < P.cellsOf e → w.cell? ((a.add (i * P.cellsOf e)).add j) = cs[j]?) ∧ Known (fun b => b < w.heap.size) w r cs := fun i hi => by
            have hy := hel i hi
            rw [List.getElem?_eq_getElem (by omega), Option.bind_eq_some_iff] at hy
            obtain ⟨cs, q1, q2⟩ := hy
            obtain ⟨_, z2, z3⟩ := World.cells?_some q1
            obtain ⟨r, f1, f2⟩ := in_any hL n e cs _ hrow.1 q2
            exact ⟨r, f1, cs, z2, z3, f2⟩
          obtain ⟨es, e1, e2⟩ := pick_list len one
          refine ⟨_, Or.inr ⟨es, rfl, by omega, fun x hx => ?_⟩, known_one ⟨some a, cap, by rw [e1], ⟨fun h => (by cases h), fun h => (by cases h), by omega⟩, fun h0 => ?_⟩ rfl⟩
          · obtain ⟨i, hi, rfl⟩ := List.mem_iff_getElem.1 hx
            exact (e2 i hi).1
          · obtain ⟨_, cs0, l0, c0, k0⟩ := e2 0 h0
            have g0 := c0 0 (by omega)
            rw [List.getElem?_eq_getElem (by omega)] at g0
            have hs : a.spot = none := by have := spot_none g0; simpa [Addr.add] using this
            obtain ⟨b, o, sp⟩ := a
            obtain rfl : sp = none := hs
            refine ⟨b, o, rfl, by have := cell_lt g0; simpa [Eng.add_plain] using this, repEs_of es o fun i hi => ?_⟩
            obtain ⟨_, cs1, l1, c1, k1⟩ := e2 i hi
            refine ⟨by rw [k1.1, l1], repCs_of k1.2.1 k1.2.2 fun j hj => ?_⟩
            have := c1 j (by omega)
            rwa [Eng.add_plain, Eng.add_plain] at this
      | _ =>
        unfold DataW.trod at h
        rw [hu] at h
        refine ⟨[.junk], trivial, ?_⟩
        split at h <;> simp_all <;> first | exact one_known rfl rfl | skip
/-- A parameter of one cell. -/
theorem in_one (hL : laidOutB P = true) {t : TypeId} {v : Value} {d : DataW H} {ps : List MemPlace} (hv : isVar P t = true) (hc : v.cells = #[v]) (h : DataW.Trod enc P w 0 (fun _ => true) true t v d ps) :
    ∃ n a, Fits P n t [a] ∧ RepD (fun b => b < w.heap.size) w a v := by
  obtain ⟨n, hf⟩ := h
  rw [hc] at hf
  obtain ⟨a, f, k1, k2, k3⟩ := in_any hL n t _ _ hv hf
  match a, k1 with
  | [a], _ =>
    obtain ⟨u, us, e, r, _⟩ := k2
    cases e
    exact ⟨n, a, f, r⟩
theorem in_slice (hL : laidOutB P = true) {t e : TypeId} {r : Reach} {b0 : Nat} {v : Value} {d : DataW H} {ps : List MemPlace} (hv : isVar P t = true) (ht : P.underlying t = some (.slice e)) (hval : Value.okWide P w r b0 t v) (h : DataW.Trod enc P w 0 (fun _ => true) true t v d ps) :
    ∃ n a, Fits P n t [a] ∧ RepD (fun b => b < w.heap.size) w a v := by
  obtain ⟨a, l, c, rfl⟩ := okWide_slice ht hval
  exact in_one hL hv rfl h
/-- A parameter that is a struct. -/
theorem in_struct (hL : laidOutB P = true) {t : TypeId} {fs : Array Field} {r : Reach} {b0 : Nat} {v : Value} {d : DataW H} {ps : List MemPlace} (hv : isVar P t = true) (ht : P.underlying t = some (.struct fs)) (hval : Value.okWide P w r b0 t v) (h : DataW.Trod enc P w 0 (fun _ => true) true t v d ps) :
    ∃ n a, Fits P n t a ∧ RepD (fun b => b < w.heap.size) w (.agg a) v := by
  obtain ⟨cs, rfl, hs⟩ := okWide_struct ht hval
  obtain ⟨n, hf⟩ := h
  obtain ⟨a, f, k1, k2, k3⟩ := in_any hL n t _ _ hv hf
  exact ⟨n, a, f, cs, rfl, k2, k3⟩
theorem okWide_arr {t e : TypeId} {m : Nat} {r : Reach} {b0 : Nat} {v : Value} (ht : P.underlying t = some (.array m e)) (h : Value.okWide P w r b0 t v) : ∃ cs, v = .agg cs := by
  simp only [Value.okWide, ht] at h
  obtain ⟨cs, h1, _⟩ := h
  exact ⟨cs, h1⟩
theorem in_array (hL : laidOutB P = true) {t e : TypeId} {m : Nat} {r : Reach} {b0 : Nat} {v : Value} {d : DataW H} {ps : List MemPlace} (hv : isVar P t = true) (ht : P.underlying t = some (.array m e)) (hval : Value.okWide P w r b0 t v) (h : DataW.Trod enc P w 0 (fun _ => true) true t v d ps) :
    ∃ n a, Fits P n t a ∧ RepD (fun b => b < w.heap.size) w (.agg a) v := by
  obtain ⟨cs, rfl⟩ := okWide_arr ht hval
  obtain ⟨n, hf⟩ := h
  obtain ⟨a, f, k1, k2, k3⟩ := in_any hL n t _ _ hv hf
  exact ⟨n, a, f, cs, rfl, k2, k3⟩
theorem list_ofP {α : Type} {f : α → List AV} {Q : α → Prop} : ∀ {es : List (List AV)}, (∀ a ∈ es, ∃ x, a = f x ∧ Q x) → ∃ l : List α, es = l.map f ∧ l.length = es.length ∧ ∀ x ∈ l, Q x
  | [], _ => ⟨[], rfl, rfl, fun x hx => by cases hx⟩
  | e :: es, h => by
    obtain ⟨x, rfl, q⟩ := h e List.mem_cons_self
    obtain ⟨l, h1, h2, h3⟩ := list_ofP fun a ha => h a (List.mem_cons_of_mem _ ha)
    refine ⟨x :: l, by rw [h1]; rfl, by simp [h2], fun y hy => ?_⟩
    rcases List.mem_cons.1 hy with rfl | hy
    · exact q
    · exact h3 y hy
/-! What fits, type by type. -/
variable {n : Nat} {t e : TypeId} {a : List AV}
theorem fit_int {k : IntKind} (ht : P.underlying t = some (.int k)) (h : Fits P n t a) : ∃ i, a = [.c (.int k i)] ∧ (Lit.int k i).wf = true := by
  cases n with
  | zero => exact h.elim
  | succ n => unfold Fits at h; rw [ht] at h; exact h
theorem fit_bool (ht : P.underlying t = some .bool) (h : Fits P n t a) : ∃ b, a = [.c (.bool b)] := by
  cases n with
  | zero => exact h.elim
  | succ n => unfold Fits at h; rw [ht] at h; exact h
theorem fit_str (ht : P.underlying t = some .string) (h : Fits P n t a) : ∃ s, a = [.c (.string s)] ∧ s.size ≤ maxLen := by
  cases n with
  | zero => exact h.elim
  | succ n => unfold Fits at h; rw [ht] at h; exact h
theorem fit_slice {c : Nat} (ht : P.underlying t = some (.slice e)) (hc : P.cellsOf e = c) (h0 : (c != 0) = true) (h : Fits P n t a) : ∃ m es, n = m + 1 ∧ a = [.sl false c es] ∧ es.length ≤ maxLen ∧ ∀ x ∈ es, Fits P m e x := by
  cases n with
  | zero => exact h.elim
  | succ n =>
    unfold Fits at h
    rw [ht] at h
    subst hc
    rcases h with ⟨hc, _⟩ | ⟨es, h1, h2, h3⟩
    · rw [hc] at h0; cases h0
    · exact ⟨n, es, rfl, h1, h2, h3⟩
theorem fit_struct {fs : Array Field} (ht : P.underlying t = some (.struct fs)) (h : Fits P n t a) : ∃ m, n = m + 1 ∧ FitsL (Fits P m) (fs.toList.map (·.type)) a := by
  cases n with
  | zero => exact h.elim
  | succ n => unfold Fits at h; rw [ht] at h; exact ⟨n, rfl, h⟩
theorem fit_array {m : Nat} (ht : P.underlying t = some (.array m e)) (h : Fits P n t a) : ∃ m', n = m' + 1 ∧ FitsL (Fits P m') (List.replicate m e) a := by
  cases n with
  | zero => exact h.elim
  | succ n => unfold Fits at h; rw [ht] at h; exact ⟨n, rfl, h⟩
end
end Go.Proofs.Ytgjamefpphhobaa
