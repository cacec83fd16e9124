/- What comes in where the arguments together are of bounded bulk, as the walk over values knows it. -/
import Derived.Test.YtgjamefpphhobaaEngAny
import Derived.Test.YtgjamefpphhobaaRows
namespace Go.Proofs.Ytgjamefpphhobaa
set_option linter.unusedVariables false
open Go.RowKit Go.WideShapes Go.ChangeShapes Go.Proofs.Ytgjamefpphhobaa.Eng

theorem one_leU {H : Type} (d : DataW H) : 1 ≤ Rows.uptoBulk d := by
  cases d with
  | lit l => cases l <;> simp [Rows.uptoBulk]
  | _ => simp [Rows.uptoBulk]
theorem part_leU {H : Type} {d : DataW H} {l : List (DataW H)} (h : d ∈ l) : Rows.uptoBulk d ≤ Rows.uptoBulkAll l := by
  induction l with
  | nil => cases h
  | cons x r ih =>
    simp only [Rows.uptoBulkAll]
    cases List.mem_cons.1 h with
    | inl e => subst e; omega
    | inr e => have := ih e; omega
theorem length_leU {H : Type} (l : List (DataW H)) : l.length ≤ Rows.uptoBulkAll l := by
  induction l with
  | nil => simp [Rows.uptoBulkAll]
  | cons x r ih => have := one_leU x; simp only [Rows.uptoBulkAll, List.length_cons]; omega
theorem bound_leU {H : Type} {l : List (DataW H)} (hk : Rows.uptoSmall H l = true) : Rows.uptoBulkAll l ≤ 1048576 := of_decide_eq_true hk
/-- What values of a type are to the walk: their cells, where nothing is longer than M. -/
def FitsU (P : Program) (M : Nat) : Nat → TypeId → List AV → Prop
  | 0, _, _ => False
  | n + 1, t, x =>
    match P.underlying t with
    | some .bool => ∃ b, x = [.c (.bool b)]
    | some (.int k) => ∃ i, x = [.c (.int k i)] ∧ (Lit.int k i).wf = true
    | some .string => ∃ s, x = [.c (.string s)] ∧ s.size ≤ M
    | some (.slice e) => (P.cellsOf e = 0 ∧ x = [.junk]) ∨ ∃ es, x = [.sl false (P.cellsOf e) es] ∧ es.length ≤ M ∧ ∀ a ∈ es, FitsU P M n e a
    | some (.struct fs) => FitsL (FitsU P M n) (fs.toList.map (·.type)) x
    | some (.array m e) => FitsL (FitsU P M n) (List.replicate m e) x
    | _ => True
section
variable {P : Program} {ok : Nat → Prop} {w : World}
variable {H : Type} {enc : TypeId × Value → H}
set_option maxHeartbeats 1000000 in
theorem in_anyU (M : Nat) (hL : laidOutB P = true) : ∀ (n : Nat) (t : TypeId) (cs : List Value) (x : DataW H × List MemPlace), isVar P t = true → DataW.trod enc P w 0 (fun _ => true) true n t cs = some x → Rows.uptoBulk x.1 ≤ M → ∃ a, FitsU P M n t a ∧ Known (fun b => b < w.heap.size) w a cs
  | 0, t, cs, x, _, h, _ => by simp [DataW.trod] at h
  | n + 1, t, cs, x, hv, h, hb => by
    have hrow : rowFine P t = true := by
      unfold laidOutB at hL
      simp only [Bool.and_eq_true] at hL
      have h1 := List.all_eq_true.1 hL.1.1 t
      unfold isVar at hv
      simp only [Bool.and_eq_true, decide_eq_true_eq] at hv
      exact h1 (List.mem_range.2 hv.1)
    unfold rowFine at hrow
    rw [hv] at hrow
    simp only [Bool.not_true, Bool.false_or] at hrow
    unfold FitsU
    cases hu : P.underlying t with
    | none => unfold DataW.trod at h; rw [hu] at h; simp at h
    | some d =>
      rw [hu] at hrow
      cases d with
      | bool =>
        obtain ⟨b, rfl, _⟩ := DataW.trod_bool hu h
        exact ⟨_, ⟨b, rfl⟩, known_one rfl rfl⟩
      | int k =>
        obtain ⟨b, rfl, _, hw⟩ := DataW.trod_int hu h
        exact ⟨_, ⟨b, rfl, hw⟩, known_one rfl rfl⟩
      | string =>
        obtain ⟨b, rfl, rfl, hw⟩ := DataW.trod_string hu h
        have hb' : b.size ≤ M := by
          have : Rows.uptoBulk (DataW.lit (H := H) (.string b.data.toList)) = b.data.toList.length + 1 := by simp [Rows.uptoBulk]
          simp only [this, Array.length_toList] at hb
          have e : b.data.size = b.size := rfl
          omega
        exact ⟨_, ⟨b, rfl, hb'⟩, known_one rfl rfl⟩
      | struct fs =>
        simp only [Bool.and_eq_true, beq_iff_eq] at hrow
        obtain ⟨⟨hf, hc⟩, ho⟩ := hrow
        obtain ⟨xs, m, em, ex, hl, hlen, hff⟩ := DataW.trod_struct hu h
        have hbx : ∀ y ∈ xs, Rows.uptoBulk y.1 ≤ M := fun y hy => by
          rw [ex] at hb
          exact Nat.le_trans (part_leU (List.mem_map_of_mem (f := fun y : DataW H × List MemPlace => y.1) hy)) (by simp only [Rows.uptoBulk] at hb; omega)
        have em2 : m = n := by omega
        rw [em2] at hff
        refine pieces (fs.toList.map (·.type)) cs (by rw [hl, hc, List.map_map]; rfl) fun j t' hj => ?_
        rw [List.getElem?_map] at hj
        cases hfj : fs.toList[j]? with
        | none => rw [hfj] at hj; cases hj
        | some f =>
          rw [hfj] at hj
          cases hj
          have hlt : j < fs.toList.length := (List.getElem?_eq_some_iff.1 hfj).1
          have h1 := hff j f (by simpa using hfj)
          rw [List.getElem?_eq_getElem (by rw [hlen]; simpa using hlt)] at h1
          have h2 := List.all_eq_true.1 ho j (List.mem_range.2 hlt)
          rw [hfj] at h2
          simp only [beq_iff_eq] at h2
          rw [h2] at h1
          obtain ⟨a, q, k⟩ := in_anyU M hL n f.type _ _ (List.all_eq_true.1 hf f (List.mem_of_getElem? hfj)) h1 (hbx _ (List.getElem_mem _))
          refine ⟨a, q, ?_⟩
          rw [← List.map_take, List.map_map]
          exact k
      | array m e =>
        simp only [Bool.and_eq_true, beq_iff_eq] at hrow
        obtain ⟨xs, m', em, ex, hl, hlen, hff⟩ := DataW.trod_array hu h
        have hbx : ∀ y ∈ xs, Rows.uptoBulk y.1 ≤ M := fun y hy => by
          rw [ex] at hb
          exact Nat.le_trans (part_leU (List.mem_map_of_mem (f := fun y : DataW H × List MemPlace => y.1) hy)) (by simp only [Rows.uptoBulk] at hb; omega)
        have em2 : m' = n := by omega
        rw [em2] at hff
        refine pieces (List.replicate m e) cs (by rw [hl, hrow.2, List.map_replicate, ← rep_sum, List.map_id']) fun j t' hj => ?_
        have hjm : j < m := by have := (List.getElem?_eq_some_iff.1 hj).1; simpa using this
        obtain rfl : e = t' := by rw [List.getElem?_replicate, if_pos hjm] at hj; exact Option.some.inj hj
        have h1 := hff j hjm
        rw [List.getElem?_eq_getElem (by omega)] at h1
        obtain ⟨a, q, k⟩ := in_anyU M hL n e _ _ hrow.1 h1 (hbx _ (List.getElem_mem _))
        refine ⟨a, q, ?_⟩
        rw [List.take_replicate, Nat.min_eq_left (by omega), List.map_replicate, ← List.map_id' (List.replicate _ _), rep_sum]
        exact k
      | slice e =>
        simp only [Bool.and_eq_true, beq_iff_eq] at hrow
        rcases DataW.trod_slice hu h with ⟨rfl, _⟩ | ⟨a, len, cap, elems, rest, m, em, rfl, ex, hb0, hl, hm, hlen, hel, _, _⟩
        · exact ⟨_, Or.inr ⟨[], rfl, by simp, fun a ha => by cases ha⟩, known_one ⟨none, 0, rfl, ⟨fun h => (by cases h), fun _ => rfl, Nat.le_refl _⟩, fun h0 => by simp at h0⟩ rfl⟩
        · have em2 : m = n := by omega
          rw [em2] at hel
          have hbx : ∀ y ∈ elems, Rows.uptoBulk y.1 ≤ M := fun y hy => by
            rw [ex] at hb
            exact Nat.le_trans (part_leU (List.mem_map_of_mem (f := fun y : DataW H × List MemPlace => y.1) hy)) (by simp only [Rows.uptoBulk] at hb; omega)
          have hlM : elems.length ≤ M := by
            rw [ex] at hb
            have := length_leU (elems.map (·.1))
            simp only [Rows.uptoBulk, List.length_map] at hb this
            omega
          by_cases hc0 : P.cellsOf e = 0
          · exact ⟨_, Or.inl ⟨hc0, rfl⟩, known_one trivial rfl⟩
          have one : ∀ i, i < len → ∃ r : List AV, FitsU P M n e r ∧ ∃ cs, cs.length = P.cellsOf e ∧ (∀ j, j < P.cellsOf e → w.cell? ((a.add (i * P.cellsOf e)).add j) = cs[j]?) ∧ Known (fun b => b < w.heap.size) w r cs := fun i hi => by
            have hy := hel i hi
            rw [List.getElem?_eq_getElem (by omega), Option.bind_eq_some_iff] at hy
            obtain ⟨cs, q1, q2⟩ := hy
            obtain ⟨_, z2, z3⟩ := World.cells?_some q1
            obtain ⟨r, f1, f2⟩ := in_anyU M hL n e cs _ hrow.1 q2 (hbx _ (List.getElem_mem _))
            exact ⟨r, f1, cs, z2, z3, f2⟩
          obtain ⟨es, e1, e2⟩ := pick_list len one
          refine ⟨_, Or.inr ⟨es, rfl, by omega, fun x hx => ?_⟩, known_one ⟨some a, cap, by rw [e1], ⟨fun h => (by cases h), fun h => (by cases h), by omega⟩, fun h0 => ?_⟩ rfl⟩
          · obtain ⟨i, hi, rfl⟩ := List.mem_iff_getElem.1 hx
            exact (e2 i hi).1
          · obtain ⟨_, cs0, l0, c0, k0⟩ := e2 0 h0
            have g0 := c0 0 (by omega)
            rw [List.getElem?_eq_getElem (by omega)] at g0
            have hs : a.spot = none := by have := spot_none g0; simpa [Addr.add] using this
            obtain ⟨b, o, sp⟩ := a
            obtain rfl : sp = none := hs
            refine ⟨b, o, rfl, by have := cell_lt g0; simpa [Eng.add_plain] using this, repEs_of es o fun i hi => ?_⟩
            obtain ⟨_, cs1, l1, c1, k1⟩ := e2 i hi
            refine ⟨by rw [k1.1, l1], repCs_of k1.2.1 k1.2.2 fun j hj => ?_⟩
            have := c1 j (by omega)
            rwa [Eng.add_plain, Eng.add_plain] at this
      | _ =>
        unfold DataW.trod at h
        rw [hu] at h
        refine ⟨[.junk], trivial, ?_⟩
        split at h <;> simp_all <;> first | exact one_known rfl rfl | skip
/-- A parameter of one cell. -/
theorem in_oneU (M : Nat) (hL : laidOutB P = true) {t : TypeId} {v : Value} {d : DataW H} {ps : List MemPlace} (hv : isVar P t = true) (hc : v.cells = #[v]) (h : DataW.Trod enc P w 0 (fun _ => true) true t v d ps) (hb : Rows.uptoBulk d ≤ M) :
    ∃ n a, FitsU P M n t [a] ∧ RepD (fun b => b < w.heap.size) w a v := by
  obtain ⟨n, hf⟩ := h
  rw [hc] at hf
  obtain ⟨a, f, k1, k2, k3⟩ := in_anyU M hL n t _ _ hv hf hb
  match a, k1 with
  | [a], _ =>
    obtain ⟨u, us, e, r, _⟩ := k2
    cases e
    exact ⟨n, a, f, r⟩
theorem in_sliceU (M : Nat) (hL : laidOutB P = true) {t e : TypeId} {r : Reach} {b0 : Nat} {v : Value} {d : DataW H} {ps : List MemPlace} (hv : isVar P t = true) (ht : P.underlying t = some (.slice e)) (hval : Value.okWide P w r b0 t v) (h : DataW.Trod enc P w 0 (fun _ => true) true t v d ps) (hb : Rows.uptoBulk d ≤ M) :
    ∃ n a, FitsU P M n t [a] ∧ RepD (fun b => b < w.heap.size) w a v := by
  obtain ⟨a, l, c, rfl⟩ := okWide_slice ht hval
  exact in_oneU M hL hv rfl h hb
/-- A parameter that is a struct. -/
theorem in_structU (M : Nat) (hL : laidOutB P = true) {t : TypeId} {fs : Array Field} {r : Reach} {b0 : Nat} {v : Value} {d : DataW H} {ps : List MemPlace} (hv : isVar P t = true) (ht : P.underlying t = some (.struct fs)) (hval : Value.okWide P w r b0 t v) (h : DataW.Trod enc P w 0 (fun _ => true) true t v d ps) (hb : Rows.uptoBulk d ≤ M) :
    ∃ n a, FitsU P M n t a ∧ RepD (fun b => b < w.heap.size) w (.agg a) v := by
  obtain ⟨cs, rfl, hs⟩ := okWide_struct ht hval
  obtain ⟨n, hf⟩ := h
  obtain ⟨a, f, k1, k2, k3⟩ := in_anyU M hL n t _ _ hv hf hb
  exact ⟨n, a, f, cs, rfl, k2, k3⟩
/-! What fits, type by type. -/
variable {M n : Nat} {t e : TypeId} {a : List AV}
theorem fitU_int {k : IntKind} (ht : P.underlying t = some (.int k)) (h : FitsU P M n t a) : ∃ i, a = [.c (.int k i)] ∧ (Lit.int k i).wf = true := by
  cases n with
  | zero => exact h.elim
  | succ n => unfold FitsU at h; rw [ht] at h; exact h
theorem fitU_str (ht : P.underlying t = some .string) (h : FitsU P M n t a) : ∃ s, a = [.c (.string s)] ∧ s.size ≤ M := by
  cases n with
  | zero => exact h.elim
  | succ n => unfold FitsU at h; rw [ht] at h; exact h
theorem fitU_slice {c : Nat} (ht : P.underlying t = some (.slice e)) (hc : P.cellsOf e = c) (h0 : (c != 0) = true) (h : FitsU P M n t a) : ∃ m es, n = m + 1 ∧ a = [.sl false c es] ∧ es.length ≤ M ∧ ∀ x ∈ es, FitsU P M m e x := by
  cases n with
  | zero => exact h.elim
  | succ n =>
    unfold FitsU at h
    rw [ht] at h
    subst hc
    rcases h with ⟨hc, _⟩ | ⟨es, h1, h2, h3⟩
    · rw [hc] at h0; cases h0
    · exact ⟨n, es, rfl, h1, h2, h3⟩
theorem fitU_struct {fs : Array Field} (ht : P.underlying t = some (.struct fs)) (h : FitsU P M n t a) : ∃ m, n = m + 1 ∧ FitsL (FitsU P M m) (fs.toList.map (·.type)) a := by
  cases n with
  | zero => exact h.elim
  | succ n => unfold FitsU at h; rw [ht] at h; exact ⟨n, rfl, h⟩
end
end Go.Proofs.Ytgjamefpphhobaa
