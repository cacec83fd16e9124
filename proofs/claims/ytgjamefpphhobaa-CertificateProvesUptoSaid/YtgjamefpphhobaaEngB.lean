/- A walk over values in the place of memory, the second part: regions, in whatever order they are drawn. No program is named here. -/
import Derived.RangeFuncLeaves
import Derived.RangeFuncRecord
import Derived.OrdersIn
import Derived.ControlIn
import Derived.Test.YtgjamefpphhobaaEngA
namespace Go.Proofs.Ytgjamefpphhobaa.Eng
set_option linter.unusedVariables false
set_option linter.unusedSimpArgs false
set_option linter.unusedSectionVars false

-- part 13
section
open RowKit
theorem fillA_length (place : Nat → Option (Nat × Nat)) : ∀ (ps : List (Nat × AV)) (cs out : List AV), fillA place cs ps = some out → out.length = cs.length
  | [], cs, out, h => by simp [fillA] at h; rw [h]
  | (i, x) :: ps, cs, out, h => by
    unfold fillA at h
    split at h
    · cases h
    · split at h
      · rw [fillA_length place ps _ _ h, setAll_length]
      · cases h

theorem chunk_idx {m : List (Option Nat)} {ok : Nat → Prop} {w : World} {n st : Nat} {cs : List AV} {vs : List Value} (hr : RepL m ok w cs vs) (h1 : ∀ u ∈ vs, u.oneCell' = true) (hd : isDL cs = true) (hl : cs.length = n * st) : IdxR ok w st (chunk n st cs) vs := by
  refine ⟨by rw [hr.length, hl]; simp [chunk], h1, fun i e he => ?_⟩
  unfold chunk at he
  rw [List.getElem?_map, Option.map_eq_some_iff] at he
  obtain ⟨k, hk, rfl⟩ := he
  have hki : i < n ∧ k = i := by
    have := List.getElem?_eq_some_iff.1 hk
    obtain ⟨a, b⟩ := this
    simp at a b
    exact ⟨a, b.symm⟩
  obtain ⟨hi, rfl⟩ := hki
  have hlt : k * st + st ≤ n * st := by
    have := Nat.mul_le_mul_right st hi
    rw [Nat.succ_mul] at this
    exact this
  refine ⟨by rw [List.length_take, List.length_drop, hl]; omega, fun j y hy => ?_⟩
  rw [List.getElem?_take] at hy
  split at hy
  · rw [List.getElem?_drop] at hy
    obtain ⟨u, hu, hv⟩ := hr.get hy
    exact ⟨u, hu, isD_ok y (isDL_get hd hy) hv⟩
  · cases hy

theorem buildSlice_run {P : Program} {t e : TypeId} {len : Nat} {parts : Array (Nat × Operand)} {D E : TD} (hD : td P t = some D) (he : D.elem = some e) (hE : td P e = some E) {z : List Value} (hz : E.zero = some z) (h1 : z.all (·.oneCell') = true) (hzl : z.length = E.size) (hsz : 0 < E.size)
    (hle : len * E.size ≤ 16777216) (h63 : len ≤ 9223372036854775807) {cs : List AV} {vals : List (Nat × AV)} (hcs : fillA (fun i => some (i * E.size, E.size)) ((List.range (len * E.size)).map fun k => (z.map cvc)[k % E.size]?.getD .junk) vals = some cs) {m : List (Option Nat)} {ok : Nat → Prop} {w : World} {ρ : Operand → Value} (hvl : vals.length = parts.size) (hx : ∀ (i : Nat) p q, vals[i]? = some p → ((parts.map fun (i, x) => (i, ρ x)).toList)[i]? = some q → p.1 = q.1 ∧ RepV m ok w p.2 q.2) :
    ∃ vs' : Array Value, (Instr.buildSlice t len (parts.map fun (i, x) => (i, ρ x))).run P w = .ok (.slice (some ⟨w.heap.size, 0, none⟩) len len) (w.alloc (.cells vs' e)) ∧ RepL m ok w cs vs'.toList ∧ (∀ u ∈ vs'.toList, u.oneCell' = true) ∧ vs'.size = len * E.size ∧ cs.length = len * E.size := by
  obtain ⟨u, i, hu, hi, rfl⟩ := td_some hD
  have hE2 := hE
  obtain ⟨u2, i2, hu2, hi2, rfl⟩ := td_some hE
  obtain rfl := elemD_some he
  simp only [Option.map_eq_some_iff] at hz
  obtain ⟨zv, hzv, rfl⟩ := hz
  simp only at hzl hsz hle hcs
  have hzs : zv.cells.size = i2.size := by simpa using hzl
  have hsz2 : (madeCells zv.cells (len * i2.size)).size = len * i2.size := size_madeCells _ _
  have hinit : RepL m ok w ((List.range (len * i2.size)).map fun k => (zv.cells.toList.map cvc)[k % i2.size]?.getD .junk) (madeCells zv.cells (len * i2.size)).toList ∧ ∀ q ∈ (madeCells zv.cells (len * i2.size)).toList, q.oneCell' = true := by
    refine ⟨RepL.of (by simp [hsz2]) fun k x v hx hv => ?_, fun q hq => ?_⟩
    · rw [List.getElem?_map, Option.map_eq_some_iff] at hx
      obtain ⟨k', hk', rfl⟩ := hx
      have hk2 : k < len * i2.size ∧ k' = k := by
        obtain ⟨a, b⟩ := List.getElem?_eq_some_iff.1 hk'
        simp at a b
        exact ⟨a, b.symm⟩
      obtain ⟨hk, rfl⟩ := hk2
      rw [Array.getElem?_toList, madeCells_get _ _ _ hk (by omega)] at hv
      have hlt : k' % i2.size < zv.cells.size := by rw [hzs]; exact Nat.mod_lt _ hsz
      have e1 : (zv.cells.toList.map cvc)[k' % i2.size]? = some (cvc (zv.cells[k' % i2.size]'hlt)) := by
        rw [List.getElem?_map]
        simp [hlt]
      rw [e1]
      simp only [Option.getD_some]
      have e2 : v = zv.cells[k' % i2.size]'hlt := by
        have := Option.some.inj hv
        rw [← this]
        simp [hzs]
      rw [e2]
      exact cvc_rep _ _ _ _
    · obtain ⟨k, hk, rfl⟩ := List.getElem_of_mem hq
      have hk2 : k < len * i2.size := by simpa [hsz2] using hk
      have := madeCells_get zv.cells (len * i2.size) k hk2 (by omega)
      rw [Array.getElem?_eq_getElem (by omega)] at this
      have e3 := Option.some.inj this
      simp only [Array.getElem_toList]
      rw [e3]
      exact List.all_eq_true.1 h1 _ (by simp)
  obtain ⟨vs', hf, hl, hone⟩ := fillA_ok (m := m) (ok := ok) (w := w) _ _ ((parts.map fun (i, x) => (i, ρ x)).toList) _ (madeCells zv.cells (len * i2.size)) cs hcs hinit.1 hinit.2 (by simp [hvl]) hx
  have hlen : cs.length = len * i2.size := by rw [fillA_length _ _ _ _ hcs]; simp
  have hrun : (Instr.buildSlice t len (parts.map fun (i, x) => (i, ρ x))).run P w = .ok (.slice (some ⟨w.heap.size, 0, none⟩) len len) (w.alloc (.cells vs' e)) := by
    by_cases h0 : len * i2.size = 0
    · unfold Instr.buildSlice
      have hm : madeCells zv.cells (len * i2.size) = #[] := by rw [h0]; apply Array.eq_empty_of_size_eq_zero; exact size_madeCells _ _
      rw [hm] at hf
      have hf' : Instr.fill (fun i => some (i * i2.size, i2.size)) #[] (List.map (fun x => (x.fst, ρ x.snd)) parts.toList) = some vs' := by simpa using hf
      simp [run_underlying hu, sizeOf, typeInfo, hi2, h0, hf', newRow, Array.range_zero']
    · exact run_buildSlice w t e len _ vs' i2 zv hu hi2 hzv (by omega) h0 hf
  have hvz : vs'.size = len * i2.size := by have := hl.length; simpa [hlen] using this
  exact ⟨vs', hrun, hl, hone, hvz, hlen⟩

theorem buildSlice_core {P : Program} {t e : TypeId} {len : Nat} {parts : Array (Nat × Operand)} {D E : TD} (hD : td P t = some D) (he : D.elem = some e) (hE : td P e = some E) {z : List Value} (hz : E.zero = some z) (h1 : z.all (·.oneCell') = true) (hzl : z.length = E.size) (hsz : 0 < E.size)
    (hle : len * E.size ≤ 16777216) (h63 : len ≤ 9223372036854775807) {cs : List AV} {vals : List (Nat × AV)} (hcs : fillA (fun i => some (i * E.size, E.size)) ((List.range (len * E.size)).map fun k => (z.map cvc)[k % E.size]?.getD .junk) vals = some cs) (hd : isDL cs = true) {h : Heap} {w0 : World} {ok0 : Nat → Prop} {m : List (Option Nat)} {ok : Nat → Prop} {w : World} {ρ : Operand → Value} (hvl : vals.length = parts.size) (hx : ∀ (i : Nat) p q, vals[i]? = some p → ((parts.map fun (i, x) => (i, ρ x)).toList)[i]? = some q → p.1 = q.1 ∧ RepV m ok w p.2 q.2) (r : HRel w0 ok0 m ok h w) :
    ∃ u w', (Instr.buildSlice t len (parts.map fun (i, x) => (i, ρ x))).run P w = .ok u w' ∧ ∃ m', Grow [] [] m ok w m' ok w' ∧ HRel w0 ok0 m' ok (h ++ [some (.row e E.size (chunk len E.size cs))]) w' ∧ RepV m' ok w' (.own h.length E.size len) u ∧ ∀ T, Fr T m ok w m' ok w' := by
  obtain ⟨vs', hrun, hl, hone, hvz, hlen⟩ := buildSlice_run (ρ := ρ) hD he hE hz h1 hzl hsz hle h63 hcs hvl hx
  refine ⟨.slice (some ⟨w.heap.size, 0, none⟩) len len, w.alloc (.cells vs' e), hrun, ?_⟩
  have key : OwnB (m ++ [some w.heap.size]) ok (w.alloc (.cells vs' e)) h.length (.row e E.size (chunk len E.size cs)) := by
    refine OwnB.of_idx (mget_new r.len) (.plain (heap_alloc_new w _)) ?_
    have e4 : (chunk len E.size cs).length = len := by simp [chunk]
    rw [e4, List.take_of_length_le (by simp [hvz])]
    have g := grow_new r ((Below.refl w.heap.size w).alloc (Nat.le_refl _) (.cells vs' e)) (some w.heap.size)
    exact (chunk_idx hl hone hd hlen).mono g.mo g.cells
  obtain ⟨g, r'⟩ := r.alloc _ e key
  refine ⟨_, g, r', ⟨some w.heap.size, mget_new r.len, len, e, rfl, Nat.le_refl _, by unfold maxLen; omega, ?_⟩, fun T => .new T m ((Below.refl _ _).alloc (Nat.le_refl _) _) _ fun b e => by cases e; exact Nat.le_refl _⟩
  unfold World.shape?
  rw [heap_alloc_new]
  simp [hvz]

/-- A slice of what is the call's own. -/
theorem step_buildSliceO {P : Program} {σ : AS} {dst : Option Tmp} {t e type : TypeId} {len : Nat} {parts : Array (Nat × Operand)} {pos : String} {after : Array Edge} {guard : Option (Nat × Bool)} {D E : TD} (hD : td P t = some D) (he : D.elem = some e) (hE : td P e = some E) {z : List Value} (hz : E.zero = some z) (h1 : z.all (·.oneCell') = true) (hzl : z.length = E.size) (hsz : 0 < E.size)
    (hle : len * E.size ≤ 16777216) (h63 : len ≤ 9223372036854775807) {cs : List AV} (hcs : fillA (fun i => some (i * E.size, E.size)) ((List.range (len * E.size)).map fun k => (z.map cvc)[k % E.size]?.getD .junk) (parts.toList.map fun p => (p.1, aev σ p.2)) = some cs) :
    OpOkS P σ ⟨dst, .buildSlice t len parts, type, pos, after, guard⟩ (.own σ.h.length E.size len) [] [] (σ.h ++ [some (.var e cs)]) := by
  intro w0 ok0 m ok ρ w hx r
  obtain ⟨vs', hrun, hl, hone, hvz, hlen⟩ := buildSlice_run (parts := parts) (m := m) (ok := ok) (w := w) (ρ := ρ) hD he hE hz h1 hzl hsz hle h63 hcs (by simp) (fun i p q hp hq => by
    simp only [Array.toList_map, List.getElem?_map, Option.map_eq_some_iff] at hp hq
    obtain ⟨a, ha, rfl⟩ := hp
    obtain ⟨b, hb, rfl⟩ := hq
    rw [ha] at hb; cases hb
    exact ⟨rfl, hx _ (by simp [Op.operands]; exact ⟨_, by simpa using List.mem_of_getElem? ha⟩)⟩)
  have g0 := grow_new r ((Below.refl w.heap.size w).alloc (Nat.le_refl _) (.cells vs' e)) (some w.heap.size)
  have key : OwnB (m ++ [some w.heap.size]) ok (w.alloc (.cells vs' e)) σ.h.length (.var e cs) :=
    ⟨w.heap.size, vs', mget_new r.len, heap_alloc_new w _, RepL.mono g0 cs hl, hone⟩
  obtain ⟨g, r'⟩ := r.alloc _ e key
  refine exec_value (by simp only [execOp]; exact run_value' hrun) ⟨_, ok, g, r', ⟨some w.heap.size, mget_new r.len, len, e, rfl, Nat.le_refl _, by unfold maxLen; omega, ?_⟩, fun _ => .new _ m ((Below.refl _ _).alloc (Nat.le_refl _) _) _ fun b e => by cases e; exact Nat.le_refl _⟩
  unfold World.shape?
  rw [heap_alloc_new]
  simp [hvz]

theorem step_buildSlice {P : Program} {σ : AS} {dst : Option Tmp} {t e type : TypeId} {len : Nat} {parts : Array (Nat × Operand)} {pos : String} {after : Array Edge} {guard : Option (Nat × Bool)} {D E : TD} (hD : td P t = some D) (he : D.elem = some e) (hE : td P e = some E) {z : List Value} (hz : E.zero = some z) (h1 : z.all (·.oneCell') = true) (hzl : z.length = E.size) (hsz : 0 < E.size)
    (hle : len * E.size ≤ 16777216) (h63 : len ≤ 9223372036854775807) {cs : List AV} (hcs : fillA (fun i => some (i * E.size, E.size)) ((List.range (len * E.size)).map fun k => (z.map cvc)[k % E.size]?.getD .junk) (parts.toList.map fun p => (p.1, aev σ p.2)) = some cs) (hd : isDL cs = true) :
    OpOkS P σ ⟨dst, .buildSlice t len parts, type, pos, after, guard⟩ (.own σ.h.length E.size len) [] [] (σ.h ++ [some (.row e E.size (chunk len E.size cs))]) := by
  intro w0 ok0 m ok ρ w hx r
  obtain ⟨u, w', hrun, m', g, r', hv, f⟩ := buildSlice_core (parts := parts) (ρ := ρ) hD he hE hz h1 hzl hsz hle h63 hcs hd (by simp) (fun i p q hp hq => by
    simp only [Array.toList_map, List.getElem?_map, Option.map_eq_some_iff] at hp hq
    obtain ⟨a, ha, rfl⟩ := hp
    obtain ⟨b, hb, rfl⟩ := hq
    rw [ha] at hb; cases hb
    exact ⟨rfl, hx _ (by simp [Op.operands]; exact ⟨_, by simpa using List.mem_of_getElem? ha⟩)⟩) r
  exact exec_value (by simp only [execOp]; exact run_value' hrun) ⟨m', ok, g, r', hv, fun _ => f _⟩

theorem step_buildSliceF {P : Program} {σ : AS} {dst : Option Tmp} {t e type : TypeId} {len : Nat} {parts : Array (Nat × Operand)} {pos : String} {after : Array Edge} {guard : Option (Nat × Bool)} {D E : TD} (hD : td P t = some D) (he : D.elem = some e) (hE : td P e = some E) {z : List Value} (hz : E.zero = some z) (h1 : z.all (·.oneCell') = true) (hzl : z.length = E.size) (hsz : 0 < E.size)
    (hle : len * E.size ≤ 16777216) (h63 : len ≤ 9223372036854775807) {cs : List AV} {ds : List AV} (hds : toDL σ.h (parts.toList.map fun p => aev σ p.2) = some ds) (hcs : fillA (fun i => some (i * E.size, E.size)) ((List.range (len * E.size)).map fun k => (z.map cvc)[k % E.size]?.getD .junk) ((parts.toList.map Prod.fst).zip ds) = some cs) (hd : isDL cs = true) :
    OpOkS P σ ⟨dst, .buildSlice t len parts, type, pos, after, guard⟩ (.own σ.h.length E.size len) σ.h (ownsL (parts.toList.map fun p => aev σ p.2)) (killH σ.h (ownsL (parts.toList.map fun p => aev σ p.2)) (dropL (ownsL (parts.toList.map fun p => aev σ p.2)) σ.h) ++ [some (.row e E.size (chunk len E.size cs))]) := by
  intro w0 ok0 m ok ρ w hx r
  have hvals : RepL m ok w (parts.toList.map fun p => aev σ p.2) ((parts.toList.map fun p => ρ p.2)) := by
    refine RepL.of (by simp) fun i a b h1 h2 => ?_
    simp only [List.getElem?_map, Option.map_eq_some_iff] at h1 h2
    obtain ⟨q, h1, rfl⟩ := h1
    obtain ⟨q', h2, rfl⟩ := h2
    rw [h1] at h2; cases h2
    exact hx q.2 (by simp [Op.operands]; exact ⟨_, by simpa using List.mem_of_getElem? h1⟩)
  have hD2 := toDL_ok r.own _ hds hvals
  generalize hK : ownsL (parts.toList.map fun p => aev σ p.2) = ks at *
  obtain ⟨g1, r1⟩ := r.freeze ks
  have hlen : ds.length = parts.size := by
    have h1 := (RepDL.up (m := m) _ hD2).length
    simpa using h1.symm
  obtain ⟨u, w', hrun, m', g, r', hv, f⟩ := buildSlice_core (parts := parts) (ρ := ρ) hD he hE hz h1 hzl hsz hle h63 hcs hd (by simp [hlen]) (fun i p q hp hq => by
    rw [List.getElem?_zip_eq_some] at hp
    obtain ⟨hp1, hp2⟩ := hp
    simp only [Array.toList_map, List.getElem?_map, Option.map_eq_some_iff] at hp1 hq
    obtain ⟨a, ha, ha2⟩ := hp1
    obtain ⟨b, hb, rfl⟩ := hq
    rw [ha] at hb; cases hb
    refine ⟨ha2.symm, ?_⟩
    obtain ⟨u, hu, hr⟩ := (RepDL.up (m := m) _ hD2).get hp2
    rw [List.getElem?_map, ha] at hu
    cases hu
    exact hr) r1
  rw [show (killH σ.h ks (dropL ks σ.h)).length = σ.h.length by simp [killH, dropL]] at hv
  refine exec_value (by simp only [execOp]; exact run_value' hrun) ⟨m', _, g1.then g, ?_, hv, fun h0 => ?_⟩
  · exact r'
  · have hf := f (touchO σ (.buildSlice t len parts) ++ ks)
    exact ⟨hf.same, hf.mun, hf.mold, fun b hb => (hf.okn b hb).elim (fun h => h.elim Or.inl fun ⟨L, hL, h⟩ => Or.inr (Or.inr ⟨L, by simp [hL], h⟩)) Or.inr⟩

/-- A slice that is built of data is data. -/
theorem step_buildSliceD {P : Program} {σ : AS} {dst : Option Tmp} {t type : TypeId} {len : Nat} {parts : Array (Nat × Operand)} {pos : String} {after : Array Edge} {guard : Option (Nat × Bool)} {K : AV → Prop} (h : bsD P σ t len parts K) :
    ∃ v, K v ∧ OpOkS P σ ⟨dst, .buildSlice t len parts, type, pos, after, guard⟩ v [] [] σ.h := by
  obtain ⟨D, hD, h2⟩ := elO_ex h
  obtain ⟨e, he, h3⟩ := elO_ex h2
  obtain ⟨E, hE, h4⟩ := elO_ex h3
  obtain ⟨z, hz, h1, hzl, hsz, hle, h63, h5⟩ := elO_ex h4
  obtain ⟨cs, hcs, hd, hK⟩ := elO_ex h5
  clear h h2 h3 h4 h5
  refine ⟨_, hK, fun w0 ok0 m ok ρ w hx r => ?_⟩
  obtain ⟨vs', hrun, hl, hone, hvz, hlen⟩ := buildSlice_run (parts := parts) (m := m) (ok := ok) (w := w) (ρ := ρ) hD he hE hz h1 hzl hsz hle h63 hcs (by simp) (fun i p q hp hq => by
    simp only [Array.toList_map, List.getElem?_map, Option.map_eq_some_iff] at hp hq
    obtain ⟨a, ha, rfl⟩ := hp
    obtain ⟨b, hb, rfl⟩ := hq
    rw [ha] at hb; cases hb
    exact ⟨rfl, hx _ (by simp [Op.operands]; exact ⟨_, by simpa using List.mem_of_getElem? ha⟩)⟩)
  have hB : Below w.heap.size w (w.alloc (.cells vs' e)) := (Below.refl _ _).alloc (Nat.le_refl _) _
  obtain ⟨g, r'⟩ := r.grown hB (ok' := fun b => ok b ∨ (w.heap.size ≤ b ∧ b < (w.alloc (.cells vs' e)).heap.size)) (fun b hb => Or.inl hb) (fun b hb => hb)
  have hidx := (chunk_idx hl hone hd hlen).mono g.mo g.cells
  have e4 : (chunk len E.size cs).length = len := by simp [chunk]
  refine exec_value (by simp only [execOp]; exact run_value' hrun) ⟨m, _, g, r', ?_, fun _ => .below _ _ hB fun b hb => hb.imp id And.left⟩
  refine ⟨some ⟨w.heap.size, 0, none⟩, len, by rw [e4], ⟨fun _ => by simp, fun h => (by cases h), by rw [e4]; exact Nat.le_refl _⟩, fun _ => ⟨w.heap.size, 0, rfl, Or.inr ⟨Nat.le_refl _, by simp⟩, RepEs.of_idx _ 0 _ hidx fun j u hj => ?_⟩⟩
  rw [Nat.zero_add, (CellsT.plain (heap_alloc_new w (.cells vs' e))).cell]
  simpa using hj

theorem bytesA_spec : ∀ {es : List (List AV)} {bs : List Int}, bytesA es = some bs → bs.length = es.length ∧ ∀ (i : Nat) b, bs[i]? = some b → es[i]? = some [.c (.int .u8 b)]
  | [], bs, h => by
    simp [bytesA] at h
    subst h
    exact ⟨rfl, fun i b h => by simp at h⟩
  | e :: es, bs, h => by
    unfold bytesA at h
    split at h
    · rename_i heq; cases heq
    · rename_i n r heq
      cases heq
      rw [Option.map_eq_some_iff] at h
      obtain ⟨l, hl, rfl⟩ := h
      obtain ⟨h1, h2⟩ := bytesA_spec hl
      refine ⟨by simp [h1], fun i b hb => ?_⟩
      cases i with
      | zero => simp at hb; simp [hb]
      | succ i => simpa using h2 i b (by simpa using hb)
    · cases h

theorem step_conv {P : Program} {σ : AS} {dst : Option Tmp} {s d type : TypeId} {x : Operand} {pos : String} {after : Array Edge} {guard : Option (Nat × Bool)} {y : AV} {K : AV → Prop} (hy : aev σ x = y) (h : convS P σ.h s d y K) : ∃ v, K v ∧ OpOkS P σ ⟨dst, .convert s d x, type, pos, after, guard⟩ v [] [] σ.h := by
  unfold convS at h
  have q_ := elO_ex h
  clear h
  obtain ⟨S, hS, h⟩ := q_
  have q_ := elO_ex h
  clear h
  obtain ⟨D, hD, hstr, h⟩ := q_
  have q_ := elO_ex h
  clear h
  obtain ⟨e, he, h⟩ := q_
  have q_ := elO_ex h
  clear h
  obtain ⟨E, hE, hik, h⟩ := q_
  have q_ := elO_ex h
  clear h
  obtain ⟨es, hes, h⟩ := q_
  have q_ := elO_ex h
  clear h
  obtain ⟨bs, hbs, h⟩ := q_
  refine ⟨_, h, OpOkP.full' (fun m ok ρ w hx ho => ⟨.string (bytesS bs), ?_, rfl⟩)⟩
  obtain ⟨u, i, hu, hi, rfl⟩ := td_some hS
  obtain ⟨u1, i1, hu1, hi1, rfl⟩ := td_some hD
  obtain ⟨u2, i2, hu2, hi2, rfl⟩ := td_some hE
  obtain rfl := elemD_some he
  obtain rfl := strD_true hstr
  obtain rfl := ikD_some hik
  have q := hx x (by simp [Op.operands])
  rw [hy] at q
  obtain ⟨A, cap, l, hv, hidx, hc, hn⟩ := elemsN_ok ho hes q
  obtain ⟨s1, s2⟩ := bytesA_spec hbs
  have hl : l = bs.map (Value.int .u8) := by
    apply List.ext_getElem?
    intro i
    rw [List.getElem?_map]
    rcases Nat.lt_or_ge i bs.length with hlt | hge
    · have hb : bs[i]? = some bs[i] := List.getElem?_eq_getElem hlt
      obtain ⟨_, k⟩ := hidx.2.2 i _ (s2 i _ hb)
      obtain ⟨u, k1, k2⟩ := k 0 _ rfl
      rw [hb]
      simp only [RepD] at k2
      rw [k2] at k1
      simpa using k1
    · rw [List.getElem?_eq_none hge, List.getElem?_eq_none (by rw [hidx.1]; omega)]
      rfl
  simp only [execOp, hv]
  refine run_value ?_
  cases A with
  | none =>
    obtain rfl := hn rfl
    obtain rfl : bs = [] := List.eq_nil_of_length_eq_zero (by simpa using s1)
    simp [convert, run_underlying hu, run_underlying hu1, run_underlying hu2, Conv.bytesToString, bytesS]
  | some a =>
    have hload := run_loadCells_list (P := P) w a l (fun j v hv => hc a rfl j v hv)
    rw [show l.length = es.length by rw [hidx.1, Nat.mul_one], hl] at hload
    have := run_bytesToString (P := P) w a es.length cap bs hload
    simp [convert, run_underlying hu, run_underlying hu1, run_underlying hu2, this, bytesS]

theorem step_mark {P : Program} {σ : AS} {dst : Option Tmp} {s type : TypeId} {x : Operand} {pos : String} {after : Array Edge} {guard : Option (Nat × Bool)} {L st n : Nat} (hx : aev σ x = .own L st n) {K : Prop} (h : convM P σ.h s L n K) : K ∧ OpOkS P σ ⟨dst, .convert s s x, type, pos, after, guard⟩ (.own L st n) [] [] σ.h := by
  unfold convM at h
  have q_ := elO_ex h
  clear h
  obtain ⟨S, hS, h⟩ := q_
  have q_ := elO_ex h
  clear h
  obtain ⟨e, he, h⟩ := q_
  have q_ := elO_ex h
  clear h
  obtain ⟨E, hE, hik, hn, h⟩ := q_
  have q_ := elO_ex h
  clear h
  obtain ⟨e', hrow, h⟩ := q_
  refine ⟨h, fun w0 ok0 m ok ρ w hxs r => ?_⟩
  have q := hxs x (by simp [Op.operands])
  rw [hx] at q
  obtain ⟨u, i, hu, hi, rfl⟩ := td_some hS
  obtain ⟨u2, i2, hu2, hi2, rfl⟩ := td_some hE
  obtain rfl := elemD_some he
  obtain rfl := ikD_some hik
  have qq := q
  obtain ⟨ob, hm, hv⟩ := q
  cases ob with
  | none => obtain ⟨h0, _⟩ := hv; omega
  | some b =>
    obtain ⟨cap, t', hv, hnc, hcm, hsh⟩ := hv
    unfold rowE at hrow
    split at hrow
    · rename_i ty st2 es2 hL
      obtain ⟨ob', hm', hr⟩ := r.own L _ hL
      rw [hm] at hm'; cases hm'
      obtain ⟨cs, ⟨fz, hb, hfz⟩, hl, hr⟩ := hr
      obtain ⟨fz', k1, k2, k3, k4⟩ := freeze_tail hb hfz
      have hrun := run_conv_mark (P := P) (s := s) hu hu2 (len := n) (cap := cap) hb
      obtain ⟨g, r'⟩ := r.write' hL hm hb (cs' := cs) rfl (blk' := .row ty st2 es2) k3 k1 k4 rfl rfl rfl fun w' g hw' => by
        refine ⟨some b, hm, cs, ⟨fz', hw', k2⟩, hl, fun i x hx => ⟨(hr i x hx).1, fun j y hy => ?_⟩⟩
        obtain ⟨u, hu, h1, hd⟩ := (hr i x hx).2 j y hy
        exact ⟨u, hu, h1, RepD.mono g.mo g.cells y hd⟩
      rw [show σ.h.set L (some (.row ty st2 es2)) = σ.h by
        apply List.ext_getElem?
        intro k
        rw [List.getElem?_set]
        split
        · rename_i e
          subst e
          rw [if_pos (List.getElem?_eq_some_iff.1 hL).1, hL]
        · rfl] at r'
      refine exec_value (u := ρ x) (w' := w.freeze ⟨b, cs.size, none⟩ 1) ?_ ⟨m, ok, g, r', RepV.mono g _ qq, fun _ => .write hm (by simp [touchO, hx, namesV]) k3⟩
      simp only [execOp, hv]
      exact run_value' hrun
    · cases hrow

theorem step_arr {P : Program} {σ : AS} {dst : Option Tmp} {t type : TypeId} {x : Operand} {pos : String} {after : Array Edge} {guard : Option (Nat × Bool)} {L : Nat} (hx' : aev σ x = .ptr L 0) {K : AV → Heap → List Nat → Heap → Prop} (h : arrA P σ t L K) :
    ∃ v, K v [] [] σ.h ∧ OpOkS P σ ⟨dst, .slice t x none none none, type, pos, after, guard⟩ v [] [] σ.h := by
  unfold arrA at h
  have q_ := elO_ex h
  clear h
  obtain ⟨D, hD, h⟩ := q_
  have q_ := elO_ex h
  clear h
  obtain ⟨a, ha, h⟩ := q_
  have q_ := elO_ex h
  clear h
  obtain ⟨E, hE, h⟩ := q_
  split at h
  · rename_i ty cs hL
    obtain ⟨hmx, hcs, hK⟩ := h
    refine ⟨_, hK, fun w0 ok0 m ok ρ w hx r => ?_⟩
    obtain ⟨u, i, hu, hi, rfl⟩ := td_some hD
    obtain rfl := arrD_some ha
    have q1 := hx x (by simp [Op.operands])
    rw [hx'] at q1
    obtain ⟨b, hm, hv⟩ := q1
    obtain ⟨b', vs, hm', hb, hvs, hv1⟩ := r.own L _ hL
    rw [hm] at hm'; cases hm'
    have hlen := hvs.length
    have hbd : (Instr.sliceBounds false a.1 a.1 none none none).run P w = .ok (0, a.1, a.1) w := by
      simp [Instr.sliceBounds]
    have hrun := run_part_arr (P := P) hu hE (b := b) (o := 0) hbd
    refine exec_value (by simp only [execOp, hv, Option.map_none]; exact run_value' hrun) ⟨m, ok, Grow.refl _ _ _ _, r, ⟨some b, hm, a.1, ty, ?_, Nat.le_refl _, by unfold maxLen; omega, ?_⟩, fun _ => .refl _ _ _ _⟩
    · by_cases h0 : a.1 = 0
      · simp [h0]
      · simp
    · unfold World.shape?
      rw [hb]
      simp at hlen
      simp [hlen, hcs]
  · exact h.elim

theorem astep_ok {P : Program} {σ : AS} {o : Oper} {K : AV → Heap → List Nat → Heap → Prop} (h : astep P σ o K) : ∃ v hk ks h', K v hk ks h' ∧ OpOkS P σ o v hk ks h' := by
  obtain ⟨dst, op, type, pos, after, guard⟩ := o
  unfold astep astepO at h
  simp only at h
  split at h
  · have q_ := elO_ex h
    clear h
    obtain ⟨D, hD, h⟩ := q_
    have q_ := elO_ex h
    clear h
    obtain ⟨z, hz, h1, h⟩ := q_
    exact ⟨_, _, _, _, h, step_alloc hD hz h1⟩
  · unfold convA at h
    split at h
    · obtain ⟨v, hK, hv⟩ := apure_ok (o := ⟨dst, _, type, pos, after, guard⟩) (show apure P σ _ _ from h)
      exact ⟨v, [], [], σ.h, hK, hv.full'⟩
    · rename_i heq
      split at h
      · rename_i e
        subst e
        obtain ⟨hK, hv⟩ := step_mark heq h
        exact ⟨_, [], [], σ.h, hK, hv⟩
      · obtain ⟨v, hK, hv⟩ := step_conv heq h
        exact ⟨v, [], [], σ.h, hK, hv⟩
    · rename_i heq
      obtain ⟨v, hK, hv⟩ := step_conv heq h
      exact ⟨v, [], [], σ.h, hK, hv⟩
    · exact h.elim
  · rename_i t x lo hi mx
    unfold sliceP at h
    split at h
    · rename_i L j hs
      split at h
      · rename_i hj
        simp only [Bool.and_eq_true, beq_iff_eq, Option.isNone_iff_eq_none, Option.map_eq_none_iff] at hj
        obtain ⟨rfl, rfl, rfl, rfl⟩ := hj
        obtain ⟨v, hK, hv⟩ := step_arr hs h
        exact ⟨v, _, _, _, hK, hv⟩
      have q_ := elO_ex h
      clear h
      obtain ⟨y, hy, h⟩ := q_
      have hyd : ∃ xs, y = .dptr xs := by
        unfold ptrD at hy
        split at hy
        · split at hy
          · cases hy; exact ⟨_, rfl⟩
          · cases hy
        · cases hy
      obtain ⟨xs, rfl⟩ := hyd
      obtain ⟨v, hK, hv⟩ := slice_dptr (x := x) (lo := lo) (hi := hi) (mx := mx) h
      refine ⟨v, _, _, _, hK, fun w0 ok0 m ok ρ w hx r => ?_⟩
      obtain ⟨g1, r1⟩ := r.freeze [L]
      have q1 := hx x (by simp [Op.operands])
      rw [hs] at q1
      obtain ⟨u, h1, h2⟩ := hv m m (okx m ok [L]) ok ρ w (g1.fz.2 L j _ _ (by simp) q1 hy) fun y hy => hx y (by
        simp only [List.mem_append, Option.mem_toList] at hy
        simp only [Op.operands, Array.mem_append]
        rcases hy with (hy | hy) | hy <;> subst hy <;> simp)
      refine exec_value (by simp only [execOp]; exact run_value' h1) ⟨m, _, g1, r1, RepD.up _ h2, fun _ => ⟨fun _ _ _ => rfl, fun _ _ _ h => h, fun _ _ h => Or.inl h, fun b hb => ?_⟩⟩
      rcases hb with hb | ⟨L', hL, hb⟩
      · exact Or.inl hb
      · exact Or.inr (Or.inr ⟨L', by simp at hL; simp [hL], hb⟩)
    · obtain ⟨v, hK, hv⟩ := apure_ok (o := ⟨dst, .slice t x lo hi mx, type, pos, after, guard⟩) (show apure P σ ⟨dst, .slice t x lo hi mx, type, pos, after, guard⟩ (pureK σ.h K) from h)
      exact ⟨v, [], [], σ.h, hK, hv.full'⟩
  · obtain ⟨hc, h⟩ := h
    exact ⟨_, _, _, _, h, step_box hc⟩
  · have q_ := elO_ex h
    clear h
    obtain ⟨D, hD, hc, hl, h⟩ := q_
    obtain ⟨h', hK, hs⟩ := step_store hD hc hl h
    exact ⟨_, _, _, _, hK, hs⟩
  · have q_ := elO_ex h
    clear h
    obtain ⟨D, hD, h⟩ := q_
    have q_ := elO_ex h
    clear h
    obtain ⟨e, he, h⟩ := q_
    have q_ := elO_ex h
    clear h
    obtain ⟨E, hE, h⟩ := q_
    have q_ := elO_ex h
    clear h
    obtain ⟨z, hz, h1, hzl, hsz, h⟩ := q_
    split at h
    · rename_i k a k' b hl hc
      obtain ⟨h0, hab, hby, h63, h⟩ := h
      exact ⟨_, _, _, _, h, step_make hD he hE hz h1 hzl hsz hl hc h0 hab hby h63⟩
    · exact h.elim
  · have q_ := elO_ex h
    clear h
    obtain ⟨D, hD, h⟩ := q_
    have q_ := elO_ex h
    clear h
    obtain ⟨e, he, h⟩ := q_
    have q_ := elO_ex h
    clear h
    obtain ⟨E, hE, h⟩ := q_
    have q_ := elO_ex h
    clear h
    obtain ⟨z, hz, h1, hzl, hsz, hle, h63, h⟩ := q_
    have q_ := elO_ex h
    clear h
    obtain ⟨cs, hcs, h⟩ := q_
    unfold bsEnd at h
    split at h
    · rename_i hd
      exact ⟨_, _, _, _, h, step_buildSlice hD he hE hz h1 hzl hsz hle h63 hcs hd⟩
    · unfold bsF0 at h
      split at h
      · rename_i ds hds
        unfold bsF1 at h
        have q_ := elO_ex h
        clear h
        obtain ⟨cs', hcs', hd', h⟩ := q_
        exact ⟨_, _, _, _, h, step_buildSliceF hD he hE hz h1 hzl hsz hle h63 hds hcs' hd'⟩
      · exact ⟨_, _, _, _, h, step_buildSliceO hD he hE hz h1 hzl hsz hle h63 hcs⟩
  · split at h
    · rename_i args ats s x t t' hargs hats
      unfold appA at h
      split at h
      · rename_i bs hbs
        unfold appS at h
        have q_ := elO_ex h
        clear h
        obtain ⟨U, hU, hstr, h⟩ := q_
        have q_ := elO_ex h
        clear h
        obtain ⟨D, hD, h⟩ := q_
        have q_ := elO_ex h
        clear h
        obtain ⟨e, he, h⟩ := q_
        have q_ := elO_ex h
        clear h
        obtain ⟨E, hE, hik, hsize, hby, h⟩ := q_
        have q_ := elO_ex h
        clear h
        obtain ⟨z, hz, hzl, h⟩ := q_
        obtain rfl := args2 hargs
        obtain rfl := ats2 hats
        split at h
        · rename_i L st n hs
          obtain ⟨rfl, hrow, h⟩ := h
          have q_ := elO_ex h
          clear h
          obtain ⟨p, hp, hb, h⟩ := q_
          have := step_app_own_str (P := P) (σ := σ) (dst := dst) (type := type) (pos := pos) (after := after) (guard := guard) (s := s) (x := x) hU hstr hik hby hD he hE hz hzl hsize hbs (L := L) (n := n) (p := p) (by rw [hsize]; exact hs) hrow (by rw [hsize]; exact hp) hb (by omega)
          rw [hsize] at this
          exact ⟨_, _, _, _, h, this⟩
        · rename_i hs
          obtain ⟨hb, h⟩ := h
          have := step_app_nil_str (P := P) (σ := σ) (dst := dst) (type := type) (pos := pos) (after := after) (guard := guard) (s := s) (x := x) hU hstr hik hby hD he hE hz hzl hsize hbs hs hb
          rw [hsize] at this
          exact ⟨_, _, _, _, h, this⟩
        · exact h.elim
      · rename_i k n hn
        unfold appM at h
        split at h
        · rename_i hs
          have q_ := elO_ex h
          clear h
          obtain ⟨U, hU, h⟩ := q_
          have q_ := elO_ex h
          clear h
          obtain ⟨kn, hk, h⟩ := q_
          have q_ := elO_ex h
          clear h
          obtain ⟨D, hD, h⟩ := q_
          have q_ := elO_ex h
          clear h
          obtain ⟨e, he, h⟩ := q_
          have q_ := elO_ex h
          clear h
          obtain ⟨E, hE, h⟩ := q_
          have q_ := elO_ex h
          clear h
          obtain ⟨z, hz, h1, hzl, hsz, h0, hb, h63, h⟩ := q_
          obtain rfl := args2 hargs
          obtain rfl := ats2 hats
          exact ⟨_, _, _, _, h, step_app_make hU hk hD he hE hz h1 hzl hsz hn hs h0 hb h63⟩
        · rename_i L st q hs
          have q_ := elO_ex h
          clear h
          obtain ⟨U, hU, h⟩ := q_
          have q_ := elO_ex h
          clear h
          obtain ⟨kn, hk, h⟩ := q_
          have q_ := elO_ex h
          clear h
          obtain ⟨D, hD, h⟩ := q_
          have q_ := elO_ex h
          clear h
          obtain ⟨e, he, h⟩ := q_
          have q_ := elO_ex h
          clear h
          obtain ⟨E, hE, h⟩ := q_
          have q_ := elO_ex h
          clear h
          obtain ⟨z, hz, h1, hzl, hsz, h0, rfl, hrow, h⟩ := q_
          have q_ := elO_ex h
          clear h
          obtain ⟨p, hp, hb, h63, h⟩ := q_
          obtain rfl := args2 hargs
          obtain rfl := ats2 hats
          exact ⟨_, _, _, _, h, step_app_ownz hU hk hD he hE hz h1 hzl hsz hn h0 hs hrow hp hb h63⟩
        · exact h.elim
      unfold appV at h
      obtain ⟨rfl, h⟩ := h
      have q_ := elO_ex h
      clear h
      obtain ⟨D, hD, h⟩ := q_
      have q_ := elO_ex h
      clear h
      obtain ⟨e, he, h⟩ := q_
      have q_ := elO_ex h
      clear h
      obtain ⟨E, hE, h⟩ := q_
      have q_ := elO_ex h
      clear h
      obtain ⟨z, hz, hzl, hsz, h⟩ := q_
      have q_ := elO_ex h
      clear h
      obtain ⟨es', hx', h⟩ := q_
      obtain rfl := args2 hargs
      obtain rfl := ats2 hats
      split at h
      · rename_i L st n hs
        obtain ⟨rfl, hrow, h⟩ := h
        have q_ := elO_ex h
        clear h
        obtain ⟨p, hp, hb, h63, h⟩ := q_
        exact ⟨_, _, _, _, h, step_app_own hD he hE hz hzl hsz hx' hs hrow hp hb h63⟩
      · rename_i hs
        obtain ⟨hb, h63, h⟩ := h
        exact ⟨_, _, _, _, h, step_app_nil hD he hE hz hzl hsz hx' hs hb h63⟩
      · rename_i st es hs
        obtain ⟨rfl, hk, hb, h63, h⟩ := h
        exact ⟨_, _, _, _, h, step_app_cut hD he hE hz hzl hsz hx' hs hk hb h63⟩
      · exact h.elim
    · exact h.elim
  · split at h
    · rename_i args ats s x t t' hargs hats
      unfold copyA at h
      split at h
      · rename_i L st n hs
        split at h
        · rename_i ty cs hL
          have q_ := elO_ex h
          clear h
          obtain ⟨D, hD, h⟩ := q_
          have q_ := elO_ex h
          clear h
          obtain ⟨e, he, h⟩ := q_
          have q_ := elO_ex h
          clear h
          obtain ⟨E, hE, rfl, hle, h⟩ := q_
          have q_ := elO_ex h
          clear h
          obtain ⟨es, hes, h⟩ := q_
          obtain rfl := args2 hargs
          obtain rfl := ats2 hats
          exact ⟨_, _, _, _, h, step_copy hD he hE hs hL hle hes (by intro k hk; exact hk)⟩
        · exact h.elim
      · exact h.elim
    · exact h.elim
  · split at h
    · rename_i g cap hf
      have q_ := elO_ex h
      clear h
      obtain ⟨ds, hds, res, hm, h⟩ := q_
      split at h
      · rename_i hc
        exact ⟨_, _, _, _, h, step_call hf hds hm _ _ _ (by rw [if_pos hc]; exact ⟨rfl, rfl, rfl⟩)⟩
      · rename_i hc
        exact ⟨_, _, _, _, h, step_call hf hds hm _ _ _ (by rw [if_neg hc]; exact ⟨rfl, rfl, rfl⟩)⟩
    · exact h.elim
  · obtain ⟨kt, hK, hs⟩ := step_makeMap (dst := dst) (type := type) (pos := pos) (after := after) (guard := guard) h
    exact ⟨_, _, _, _, hK, hs⟩
  · obtain ⟨h', hK, hs⟩ := step_mapUpdate (dst := dst) (type := type) (pos := pos) (after := after) (guard := guard) h
    exact ⟨_, _, _, _, hK, hs⟩
  · exact h.elim
end

-- part 14
section
open RowKit
def pureOp : Op → Bool
  | .move _ | .assign _ | .pick .. | .extract .. | .binOp .. | .unOp .. | .fieldAddr .. | .field .. | .indexAddr .. | .index .. | .load .. | .makeFunc .. | .build .. => true
  | .lookup .. => true
  | .nilCheck _ => true
  | .call ⟨.builtin .len, _, _⟩ => true
  | .call ⟨.builtin .cap, _, _⟩ => true
  | .call ⟨.builtin .max, _, _⟩ => true
  | .call ⟨.builtin .min, _, _⟩ => true
  | _ => false

/-- Operations that turn no memory of the call's. -/
def keepOp : Op → Bool
  | .alloc _ | .box .. | .store .. | .makeSlice .. | .buildSlice .. | .makeMap .. | .mapUpdate .. => false
  | .call ⟨.builtin .append, _, _⟩ => false
  | .call ⟨.builtin .copy, _, _⟩ => false
  | _ => true

def AS.upd (σ : AS) (dst : Option Tmp) (v : AV) (hk : Heap) (ks : List Nat) (h' : Heap) : AS :=
  match dst with
  | none => ⟨σ.n, killT hk ks σ.t, h'⟩
  | some d => ⟨σ.n, (d, v) :: killT hk ks σ.t, h'⟩

def yieldA (ops : Array Oper) (σ : AS) (j : Nat) : AV :=
  match (ops[j]?).bind (·.dst) with
  | some d => slot σ.t d
  | none => .junk

def putK (σ : AS) (dst : Option Tmp) (K : AS → Prop) (v : AV) : Prop := K (σ.put dst v)
def updK (σ : AS) (dst : Option Tmp) (K : AS → Prop) (v : AV) (hk : Heap) (ks : List Nat) (h' : Heap) : Prop := K (σ.upd dst v hk ks h')
/-- Of a region that draws its order: no operation turns memory that the call knows. -/
def updD (σ : AS) (dst : Option Tmp) (K : AS → Prop) (v : AV) (hk : Heap) (ks : List Nat) (h' : Heap) : Prop := hk = [] ∧ ks = [] ∧ h' = σ.h ∧ K (σ.put dst v)

def isCallV : Op → Bool
  | .call ⟨.value _, _, _⟩ => true
  | _ => false

/-- A call, whatever it does to what is known of the call's memory. -/
def CallS (P : Program) (σ : AS) (dst : Option Tmp) (g : FuncId) (xs : List AV) (K : AS → Prop) : Prop :=
  Proofs.Enters P g ∧ ∀ (w0 : World) (ok0 : Nat → Prop) (m : List (Option Nat)) (ok : Nat → Prop) (ρ : Nat → Value) (w : World) (vs : List Value), RepL m ok w xs vs → (∀ i, RepV m ok w (slot σ.t i) (ρ i)) → HRel w0 ok0 m ok σ.h w →
    Calls P g vs.toArray w fun e w' => ∃ v σ' m' ok', e = .returned v ∧ KeepsB w w' ∧ σ'.n = σ.n ∧ K σ' ∧ HRel w0 ok0 m' ok' σ'.h w' ∧ ∀ i, RepV m' ok' w' (slot σ'.t i) (if dst = some i then v else ρ i)

abbrev YT := Nat → AS → Option Tmp → List AV → (AS → Prop) → Prop
def noY : YT := fun _ _ _ _ _ => False
def callV (P : Program) (Y : YT) (σ : AS) (dst : Option Tmp) (xs : List AV) (K : AS → Prop) : AV → Prop
  | .fn g cap => CallS P σ dst g (xs ++ cap) K
  | .mv g fst => CallS P σ dst g (fst ++ xs) K
  | .c (.func (.yield l) a b) => a = #[] ∧ b = #[] ∧ Y l σ dst xs K
  | _ => False
def callW (P : Program) (Y : YT) (σ : AS) (dst : Option Tmp) (K : AS → Prop) : Op → Prop
  | .call ⟨.value f, args, _⟩ => callV P Y σ dst (args.toList.map (aev σ)) K (aev σ f)
  | _ => False

def awpOp (P : Program) (Y : YT) (σ : AS) (o : Oper) (K : AS → Prop) : Prop :=
  if pureOp o.op = true then apureO P σ o.op (putK σ o.dst K) else if isCallV o.op = true then callW P Y σ o.dst K o.op else astepO P σ o.op (updK σ o.dst K)
/-- A call in a region that draws its order. -/
def CallD (P : Program) (σ : AS) (dst : Option Tmp) (g : FuncId) (xs : List AV) (K : AS → Prop) : Prop :=
  ∃ ds res, toDL σ.h xs = some ds ∧ Meets P g ds res ∧ (flat res || (ownsL xs).isEmpty) = true ∧ K (σ.put dst res)
def callVD (P : Program) (σ : AS) (dst : Option Tmp) (xs : List AV) (K : AS → Prop) : AV → Prop
  | .fn g cap => CallD P σ dst g (xs ++ cap) K
  | _ => False
def callWD (P : Program) (σ : AS) (dst : Option Tmp) (K : AS → Prop) : Op → Prop
  | .call ⟨.value f, args, _⟩ => callVD P σ dst (args.toList.map (aev σ)) K (aev σ f)
  | _ => False
def isBS : Op → Bool
  | .buildSlice .. => true
  | _ => false
def bsDO (P : Program) (σ : AS) (dst : Option Tmp) (K : AS → Prop) : Op → Prop
  | .buildSlice t len parts => bsD P σ t len parts (putK σ dst K)
  | _ => False
def awpOpD (P : Program) (σ : AS) (o : Oper) (K : AS → Prop) : Prop :=
  if pureOp o.op = true then apureO P σ o.op (putK σ o.dst K) else if isCallV o.op = true then callWD P σ o.dst K o.op else if isBS o.op = true then bsDO P σ o.dst K o.op else astepO P σ o.op (updD σ o.dst K)

/-- An operation that may be passed over. -/
def guardA (A : AS → (AS → Prop) → Prop) (K : AS → Prop) (dst : Option Tmp) (want : Bool) (v : AV) (σ : AS) : Prop :=
  match v with
  | .c (.bool b) => (b = want → A σ K) ∧ (b = (!want) → K (σ.put dst (.tup [])))
  | .tup [] => K (σ.put dst (.tup []))
  | _ => False

def awpO (P : Program) (Y : YT) (o : Oper) (σ : AS) (K : AS → Prop) : Prop := awpOp P Y σ o K
def awpOD (P : Program) (o : Oper) (σ : AS) (K : AS → Prop) : Prop := awpOpD P σ o K

def awpOps (P : Program) (Y : YT) (ops : Array Oper) (K : AS → Prop) : List Oper → AS → Prop
  | [], σ => K σ
  | o :: rest, σ => match o.guard with
    | none => awpOp P Y σ o (awpOps P Y ops K rest)
    | some (j, want) => guardA (awpO P Y o) (awpOps P Y ops K rest) o.dst want (yieldA ops σ j) σ

def awpOpsD (P : Program) (Y : YT) (ops : Array Oper) (K : AS → Prop) : List Oper → AS → Prop
  | [], σ => K σ
  | o :: rest, σ => if keepOp o.op = true then (match o.guard with
    | none => awpOpD P σ o (awpOpsD P Y ops K rest)
    | some (j, want) => guardA (awpOD P o) (awpOpsD P Y ops K rest) o.dst want (yieldA ops σ j) σ) else awpOps P Y ops K (o :: rest) σ

def befOne (acc : List Nat) (o : Oper) : Nat := o.after.toList.foldl (fun s e => if Region.binds .any e then s ||| 2 ^ e.on ||| acc.getD e.on 0 else s) 0
def befs : List Oper → List Nat → List Nat
  | [], acc => acc
  | o :: r, acc => befs r (acc ++ [befOne acc o])

def keepN (l : List Oper) : Nat := (l.takeWhile fun o => keepOp o.op).length
/-- What stands from place n on comes behind all else. -/
def tailAt (n : Nat) (ops : Array Oper) : Bool :=
  (List.range ops.size).all fun j => decide (j < n) || (List.range j).all fun i => ((befs ops.toList []).getD j 0).testBit i
/-- What turns memory comes behind all else. -/
def tailOk (ops : Array Oper) : Bool := tailAt (keepN ops.toList) ops
/-- The first n operations turn no memory; the others stand in their order. -/
def awpOpsN (P : Program) (Y : YT) (ops : Array Oper) (K : AS → Prop) : Nat → List Oper → AS → Prop
  | 0, l, σ => awpOps P Y ops K l σ
  | _ + 1, [], σ => K σ
  | n + 1, o :: rest, σ => match o.guard with
    | none => awpOpD P σ o (awpOpsN P Y ops K n rest)
    | some (j, want) => guardA (awpOD P o) (awpOpsN P Y ops K n rest) o.dst want (yieldA ops σ j) σ


mutual
/-- No block from k on is named. -/
def refsV (k : Nat) : AV → Bool
  | .ptr L _ => decide (L < k)
  | .rp L _ _ => decide (L < k)
  | .mp L => decide (L < k)
  | .own L _ _ => decide (L < k)
  | .agg xs => refsL k xs
  | .tup xs => refsL k xs
  | .fn _ xs => refsL k xs
  | .mv _ xs => refsL k xs
  | .junk => true
  | .c _ => true
  | .nils => true
  | .sl _ _ _ => true
  | .cut _ _ => true
  | .dptr _ => true
def refsL (k : Nat) : List AV → Bool
  | [] => true
  | x :: xs => refsV k x && refsL k xs
end
def refsT (k : Nat) : List (Nat × AV) → Bool
  | [] => true
  | (_, x) :: r => refsV k x && refsT k r
def refsH (k : Nat) : Heap → Bool
  | [] => true
  | some (.var _ cs) :: r => refsL k cs && refsH k r
  | _ :: r => refsH k r
/-! Regions that draw their order and turn memory. -/
mutual
/-- Names, each by k more. -/
def shV (k : Nat) : AV → AV
  | .ptr L j => .ptr (k + L) j
  | .rp L i j => .rp (k + L) i j
  | .mp L => .mp (k + L)
  | .own L st n => .own (k + L) st n
  | .agg xs => .agg (shL k xs)
  | .tup xs => .tup (shL k xs)
  | .fn f xs => .fn f (shL k xs)
  | .mv f xs => .mv f (shL k xs)
  | .junk => .junk
  | .c v => .c v
  | .nils => .nils
  | .sl nn st es => .sl nn st es
  | .cut st es => .cut st es
  | .dptr xs => .dptr xs
def shL (k : Nat) : List AV → List AV
  | [] => []
  | x :: xs => shV k x :: shL k xs
end
def shB (k : Nat) : Blk → Blk
  | .var t cs => .var t (shL k cs)
  | .row e st es => .row e st es
  | .map k es => .map k es
def shH (k : Nat) (h : Heap) : Heap := h.map (Option.map (shB k))

/-- A function that makes this of these, with blocks of its own that are handed to the caller, and turns nothing that there was. -/
def MeetsO (P : Program) (f : FuncId) (args : List AV) (res : AV) (hr : Heap) : Prop :=
  Proofs.Enters P f ∧ ∀ (ok : Nat → Prop) (w : World) (vs : List Value), Okb ok w → RepDL ok w args vs →
    Calls P f vs.toArray w fun e w' => ∃ v m1 ok1, e = .returned v ∧ (∀ b, ok b → ok1 b) ∧ HRel w ok m1 ok1 hr w' ∧ RepV m1 ok1 w' res v

mutual
/-- No data. -/
def noD : AV → Bool
  | .sl _ _ _ => false
  | .cut _ _ => false
  | .dptr _ => false
  | .agg xs => noDL xs
  | .tup xs => noDL xs
  | .fn _ xs => noDL xs
  | .mv _ xs => noDL xs
  | .junk => true
  | .c _ => true
  | .nils => true
  | .ptr _ _ => true
  | .rp _ _ _ => true
  | .mp _ => true
  | .own _ _ _ => true
def noDL : List AV → Bool
  | [] => true
  | x :: xs => noD x && noDL xs
end
def closedB : Blk → Prop
  | .var _ cs => noDL cs = true
  | .row _ _ es => ∀ e ∈ es, flatL e = true
  | .map _ es => ∀ e ∈ es, flat e.2 = true
/-- What is handed over leads to nothing else. -/
def Closed (res : AV) (hr : Heap) : Prop := noD res = true ∧ ∀ b ∈ hr, ∀ blk, b = some blk → closedB blk

def maskH (F : List Nat) (h : Heap) : Heap := h.zipIdx.map fun p => if p.2 ∈ F then p.1 else none
def killO (ks : List Nat) : Option (Option Blk) → Option Blk
  | some (some b) => some (killB [] ks b)
  | _ => none
def mergeH (T ks : List Nat) (h h' : Heap) : Heap := h'.zipIdx.map fun p => if p.2 ∈ T ∨ h.length ≤ p.2 then p.1 else killO ks h[p.2]?

/-- What an operation of such a region reads and turns, by names. -/
structure Ent where
  F : List Nat
  rd : List Nat
  T : List Nat
  N : List Nat
  ks : List Nat
  vn : List Nat
def meet (x y : List Nat) : Bool := x.any fun i => y.any fun j => i == j
/-- May the two not be exchanged? -/
def conf (a b : Ent) : Bool := meet a.T (b.F ++ b.T) || (meet b.T a.F || (meet b.ks a.rd || (meet a.ks b.vn || meet a.N (b.F ++ (b.T ++ (b.rd ++ b.vn))))))
def confs (i : Nat) (b : Ent) : Nat → List Ent → List (Nat × Nat)
  | _, [] => []
  | j, a :: r => if conf a b = true then (j, i) :: confs i b (j + 1) r else confs i b (j + 1) r
def ordOk (ops : Array Oper) (prs : List (Nat × Nat)) : Bool := prs.all fun p => ((befs ops.toList []).getD p.2 0).testBit p.1

def CallX (P : Program) (σ : AS) (g : FuncId) (xs : List AV) (K : AV → List Nat → Heap → Prop) : Prop :=
  ∃ ds, toDL σ.h xs = some ds ∧ ((∃ res, Meets P g ds res ∧ (flat res || (ownsL xs).isEmpty) = true ∧ K res [] σ.h) ∨ (∃ res hr, MeetsO P g ds res hr ∧ ((ownsL xs).isEmpty = true ∨ Closed res hr) ∧ K (shV σ.h.length res) [] (σ.h ++ shH σ.h.length hr)) ∨ ∃ res, Meets P g ds res ∧ (flat res || (ownsL xs).isEmpty) = false ∧ K res (ownsL xs) (killH σ.h (ownsL xs) (dropL (ownsL xs) σ.h)))
def callXV (P : Program) (σ : AS) (xs : List AV) (K : AV → List Nat → Heap → Prop) : AV → Prop
  | .fn g cap => CallX P σ g (xs ++ cap) K
  | _ => False
def callXW (P : Program) (σ : AS) (K : AV → List Nat → Heap → Prop) : Op → Prop
  | .call ⟨.value f, args, _⟩ => callXV P σ (args.toList.map (aev σ)) K (aev σ f)
  | _ => False
def keepK (h : Heap) (K : AV → List Nat → Heap → Prop) (v : AV) : Prop := K v [] h
def stepK (K : AV → List Nat → Heap → Prop) (v : AV) (hk : Heap) (ks : List Nat) (h' : Heap) : Prop := K v ks h'
def wOp (P : Program) (σ : AS) (o : Oper) (K : AV → List Nat → Heap → Prop) : Prop :=
  if pureOp o.op = true then apureO P σ o.op (keepK σ.h K) else if isCallV o.op = true then callXW P σ K o.op else astepO P σ o.op (stepK K)

def opVals (σ : AS) (op : Op) : List AV := op.operands.toList.map (aev σ)
/-- The blocks whose content an operation may ask for. -/
def readO (σ : AS) (op : Op) : List Nat :=
  match op with
  | .move _ => []
  | .assign _ => []
  | .nilCheck _ => []
  | .pick .. => []
  | .extract .. => []
  | .fieldAddr .. => []
  | .makeFunc .. => []
  | .build .. => []
  | .box .. => []
  | .alloc _ => []
  | .binOp .. => []
  | _ => namesL (opVals σ op)
def namesB : Option Blk → List Nat
  | some (.var _ cs) => namesL cs
  | _ => []
def namesH : Heap → List Nat
  | [] => []
  | b :: r => namesB b ++ namesH r
/-- The entries of a heap that were set. -/
def setH (T : List Nat) (lo : Nat) (h : Heap) : Heap := h.zipIdx.map fun p => if p.2 ∈ T ∨ lo ≤ p.2 then p.1 else none
def newL (lo hi : Nat) : List Nat := (List.range hi).drop lo

def entW (σ : AS) (op : Op) (v : AV) (ks : List Nat) (h' : Heap) : Ent :=
  ⟨readO σ op, namesL (opVals σ op) ++ namesH (maskH (readO σ op) σ.h), touchO σ op ++ ks, newL σ.h.length h'.length, ks, namesV v ++ namesH (setH (touchO σ op ++ ks) σ.h.length h')⟩
/-- Behind an operation. -/
def nextW (σ : AS) (o : Oper) (v : AV) (ks : List Nat) (h' : Heap) : AS :=
  match o.dst with
  | none => ⟨σ.n, killT [] ks σ.t, mergeH (touchO σ o.op ++ ks) ks σ.h h'⟩
  | some d => ⟨σ.n, (d, v) :: killT [] ks σ.t, mergeH (touchO σ o.op ++ ks) ks σ.h h'⟩

def allLt (k : Nat) (l : List Nat) : Bool := l.all fun i => decide (i < k)
/-- The operation itself, with what it reads alone. -/
def wRun (P : Program) (σ : AS) (o : Oper) (K : AV → List Nat → Heap → Prop) : Prop :=
  allLt σ.h.length (namesL (opVals σ o.op)) = true ∧ allLt σ.h.length (namesH (maskH (readO σ o.op) σ.h)) = true ∧ wOp P ⟨σ.n, σ.t, maskH (readO σ o.op) σ.h⟩ o K

def contW (σ : AS) (o : Oper) (es : List Ent) (prs : List (Nat × Nat)) (K : List Ent → List (Nat × Nat) → AS → Prop) (v : AV) (ks : List Nat) (h' : Heap) : Prop :=
  allLt σ.h.length ks = true ∧ σ.h.length ≤ h'.length ∧ allLt h'.length (namesV v ++ namesH (setH (touchO σ o.op ++ ks) σ.h.length h')) = true ∧ K (es ++ [entW σ o.op v ks h']) (prs ++ confs es.length (entW σ o.op v ks h') 0 es) (nextW σ o v ks h')

def guardW (A B : AS → Prop) (want : Bool) (v : AV) (σ : AS) : Prop :=
  match v with
  | .c (.bool b) => (b = want → A σ) ∧ (b = (!want) → B σ)
  | .tup [] => B σ
  | _ => False
def runW (P : Program) (o : Oper) (es : List Ent) (prs : List (Nat × Nat)) (C : List Ent → List (Nat × Nat) → AS → Prop) (σ : AS) : Prop := wRun P σ o (contW σ o es prs C)
def skipW (o : Oper) (es : List Ent) (prs : List (Nat × Nat)) (C : List Ent → List (Nat × Nat) → AS → Prop) (σ : AS) : Prop := C (es ++ [⟨[], [], [], [], [], []⟩]) prs (σ.put o.dst (.tup []))

def awpW (P : Program) (ops : Array Oper) (K : AS → Prop) : List Oper → List Ent → List (Nat × Nat) → AS → Prop
  | [], _, prs, σ => ordOk ops prs = true ∧ K σ
  | o :: rest, es, prs, σ => match o.guard with
    | none => wRun P σ o (contW σ o es prs (awpW P ops K rest))
    | some (j, want) => guardW (runW P o es prs (awpW P ops K rest)) (skipW o es prs (awpW P ops K rest)) want (yieldA ops σ j) σ

def lastOnly : List Oper → Bool
  | [] => true
  | o :: r => if keepOp o.op = true then lastOnly r else r.isEmpty
def DrawC (P : Program) (Y : YT) (ops : Array Oper) (K : AS → Prop) (σ : AS) : Prop :=
  (tailOk ops = true ∧ awpOpsD P Y ops K ops.toList σ) ∨ (∃ n, n ≤ ops.size ∧ tailAt n ops = true ∧ awpOpsN P Y ops K n ops.toList σ) ∨ (refsT σ.h.length σ.t = true ∧ refsH σ.h.length σ.h = true ∧ awpW P ops K ops.toList [] [] σ)

/-- What is known once some blocks of the call's own are data. -/
def frz (ks : List Nat) (σ : AS) : AS := ⟨σ.n, killT σ.h ks σ.t, killH σ.h ks (dropL ks σ.h)⟩
def DrawS (P : Program) (Y : YT) (ops : Array Oper) (K : AS → Prop) (σ : AS) : Prop := DrawC P Y ops K σ ∨ ∃ ks, DrawC P Y ops K (frz ks σ)

inductive AX where
  | norm
  | ret
  | exit (id : Nat)

def Weak (t t' : List (Nat × AV)) : Prop :=
  match t' with
  | [] => True
  | (i, v) :: r => slot t i = v ∧ Weak t r

def WeakH : Heap → Heap → Prop
  | _, [] => True
  | [], _ :: _ => False
  | a :: r, b :: r' => (b = none ∨ a = b) ∧ WeakH r r'

def loopQ (Q : AX → AS → Prop) (K : AS → Prop) : AX → AS → Prop
  | .norm, σ => K σ
  | .ret, σ => Q .ret σ
  | .exit id, σ => Q (.exit id) σ
def seqQ (B : (AX → AS → Prop) → AS → Prop) (Q : AX → AS → Prop) : AX → AS → Prop
  | .norm, σ => B Q σ
  | .ret, σ => Q .ret σ
  | .exit id, σ => Q (.exit id) σ
def blkQ (id : Nat) (Q : AX → AS → Prop) : AX → AS → Prop
  | .norm, σ => Q .norm σ
  | .ret, σ => Q .ret σ
  | .exit id', σ => if id' = id then Q .norm σ else Q (.exit id') σ
def condA (A B : (AX → AS → Prop) → AS → Prop) (Q : AX → AS → Prop) (v : AV) (σ : AS) : Prop :=
  match v with
  | .c (.bool t) => (t = true → A Q σ) ∧ (t = false → B Q σ)
  | _ => False

/-- The last blocks may be forgotten where nothing names them. -/
def HW (h : Heap) (σ : AS) : Prop := h = σ.h ∨ (σ.h.length ≤ h.length ∧ WeakH h σ.h ∧ refsT σ.h.length σ.t = true ∧ refsH σ.h.length σ.h = true)

/-- Slots of which no more is said. -/
def WeakO (t t' : List (Nat × AV)) : Prop := Weak t t' ∨ ∀ i, slot t' i = .junk ∨ slot t i = slot t' i
/-- All that is known by the first is known by the second. -/
def LeS (σ σ' : AS) : Prop := σ.n = σ'.n ∧ ∀ (w0 : World) (ok0 : Nat → Prop) (m : List (Option Nat)) (ok : Nat → Prop) (w : World) (ρ : Nat → Value), HRel w0 ok0 m ok σ.h w → (∀ i, RepV m ok w (slot σ.t i) (ρ i)) → ∃ m' ok', HRel w0 ok0 m' ok' σ'.h w ∧ ∀ i, RepV m' ok' w (slot σ'.t i) (ρ i)
/-- A loop: what is known at its head, for one of many a's. -/
def LoopA (B : (AX → AS → Prop) → AS → Prop) (Q : AX → AS → Prop) (σ : AS) : Prop :=
  ∃ (α : Type) (I : α → Prop) (st : α → AS) (μ : α → Nat), (∃ a, I a ∧ LeS σ (st a)) ∧ ∀ a, I a → B (loopQ Q fun σ' => ∃ a', I a' ∧ μ a' < μ a ∧ LeS σ' (st a')) (st a)

/-- The slots of the call, and behind them those of its callers. -/
def valX (ρx : Nat → Value) (n : Nat) (a : Act) (i : Nat) : Value := if i < n then a.tmps.getD i undef else ρx i

/-- What is deferred: nothing but the marks of ranges over functions, each with a block of its own that was laid since the start. -/
def Marks (rr : Option Nat) (wS : World) (a : Act) (w : World) : Prop :=
  KeepsB wS w ∧ ∃ Ds : List Nat, a.defers = Ds.map (fun D => { target := .collected D, args := #[] }) ∧ Ds.Nodup ∧ (rr.isSome = true → Ds = []) ∧ ∀ D ∈ Ds, wS.heap.size ≤ D ∧ w.heap[D]? = some (.deferred (some []))
theorem Marks.step {rr : Option Nat} {wS : World} {a a' : Act} {w w' : World} (h : Marks rr wS a w) (k : KeepsB w w') (e : a'.defers = a.defers) : Marks rr wS a' w' := by
  obtain ⟨h1, Ds, h2, h3, h5, h4⟩ := h
  exact ⟨h1.trans k, Ds, e.trans h2, h3, h5, fun D hD => ⟨(h4 D hD).1, k.same D _ (h4 D hD).2 rfl⟩⟩
theorem Marks.start (rr : Option Nat) (w : World) {a : Act} (h : a.defers = []) : Marks rr w a w := ⟨.refl w, [], h, List.nodup_nil, fun _ => rfl, by simp⟩

/-- A world in which blocks that hold no cells, laid since a start, have turned. -/
structure Took (wS w w' : World) : Prop where
  os : w'.os = w.os
  tape : w'.tape = w.tape
  output : w'.output = w.output
  size : w'.heap.size = w.heap.size
  old : ∀ k, k < wS.heap.size → w'.heap[k]? = w.heap[k]?
  cells : ∀ (k : Nat) o, w.heap[k]? = some o → isBook o = false → w'.heap[k]? = some o
  notc : ∀ (k : Nat) o, w.heap[k]? = some o → isBook o = true → ∃ o', w'.heap[k]? = some o' ∧ isBook o' = true

theorem Took.refl (wS w : World) : Took wS w w := ⟨rfl, rfl, rfl, rfl, fun _ _ => rfl, fun _ _ h _ => h, fun _ o h c => ⟨o, h, c⟩⟩
theorem Took.trans {wS a b c : World} (h : Took wS a b) (k : Took wS b c) : Took wS a c :=
  ⟨k.os.trans h.os, k.tape.trans h.tape, k.output.trans h.output, k.size.trans h.size, fun i hi => (k.old i hi).trans (h.old i hi), fun i o ho hc => k.cells i o (h.cells i o ho hc) hc, fun i o ho hc => by
    obtain ⟨o', h1, h2⟩ := h.notc i o ho hc
    exact k.notc i o' h1 h2⟩
theorem Took.put {wS w : World} {D : Nat} {o o' : Obj} (hD : wS.heap.size ≤ D) (h : w.heap[D]? = some o) (hc : isBook o = true) (hc' : isBook o' = true) : Took wS w (w.putObj D o') := by
  have hlt := (Array.getElem?_eq_some_iff.1 h).1
  refine ⟨rfl, rfl, rfl, by simp [World.putObj], fun k hk => World.putObj_heap_other (by omega), fun k o2 hk h2 => ?_, fun k o2 hk h2 => ?_⟩
  · rw [World.putObj_heap_other]
    · exact hk
    · intro e
      rw [e, h] at hk
      cases hk
      rw [hc] at h2; cases h2
  · by_cases e : k = D
    · subst e
      exact ⟨o', World.putObj_heap_same hlt, hc'⟩
    · exact ⟨o2, (World.putObj_heap_other e).trans hk, h2⟩

theorem Took.cell {wS w w' : World} (h : Took wS w w') (b o : Nat) : w'.cell? ⟨b, o, none⟩ = w.cell? ⟨b, o, none⟩ := by
  cases hb : w.heap[b]? with
  | none =>
    have : w'.heap[b]? = none := by
      rw [Array.getElem?_eq_none_iff] at hb ⊢
      rw [h.size]; exact hb
    exact cell_same (this.trans hb.symm)
  | some ob =>
    cases hc : isBook ob with
    | false => exact cell_same ((h.cells b ob hb hc).trans hb.symm)
    | true =>
      obtain ⟨o', h1, h2⟩ := h.notc b ob hb hc
      unfold World.cell?
      simp only [h1, hb]
      cases ob <;> cases o' <;> simp_all [isBook]
theorem Took.shape {wS w w' : World} (h : Took wS w w') (b : Nat) (s : TypeId × Nat) (hs : w.shape? b = some s) : w'.shape? b = some s := by
  cases hb : w.heap[b]? with
  | none => unfold World.shape? at hs; rw [hb] at hs; cases hs
  | some ob =>
    cases hc : isBook ob with
    | false =>
      unfold World.shape? at hs ⊢
      rw [h.cells b ob hb hc]
      rw [hb] at hs
      exact hs
    | true =>
      unfold World.shape? at hs
      rw [hb] at hs
      cases ob <;> simp_all [isBook]
theorem Took.below {wS w w' : World} (h : Took wS w w') {n : Nat} (hn : n ≤ wS.heap.size) : RowKit.Below n w w' := ⟨h.os, h.tape, h.output, by rw [h.size]; exact Nat.le_refl _, fun k hk => h.old k (by omega)⟩

theorem Took.rep {wS w w' : World} (t : Took wS w w') {m : List (Option Nat)} {ok : Nat → Prop} (x : AV) {v : Value} (h : RepV m ok w x v) : RepV m ok w' x v :=
  RepV.mono0 (fun _ _ h => h) (fun _ h => h) (fun b o _ => t.cell b o) (fun L b s _ hs => t.shape b s hs) x h
theorem HRel.took {w0 : World} {ok0 : Nat → Prop} {m : List (Option Nat)} {ok : Nat → Prop} {h : Heap} {wS w w' : World} (r : HRel w0 ok0 m ok h w) (t : Took wS w w') (hS : w0.heap.size ≤ wS.heap.size) : HRel w0 ok0 m ok h w' := by
  refine ⟨r.len, fun L blk hL => ?_, r.inj, r.nok, fun L b hm => by rw [t.size]; exact r.new L b hm, fun b hk => by rw [t.size]; exact r.okb b hk, r.oko, r.bel.trans (t.below hS), r.tab.mono (fun _ h => h) fun b o _ => t.cell b o⟩
  have h0 := r.own L blk hL
  cases blk with
  | var ty xs =>
    obtain ⟨b, cs, hm, hb, hr, h1⟩ := h0
    exact ⟨b, cs, hm, t.cells b _ hb rfl, RepL.mono0 (fun _ _ h => h) (fun _ h => h) (fun b o _ => t.cell b o) (fun L b s _ hs => t.shape b s hs) xs hr, h1⟩
  | row e st es =>
    obtain ⟨ob, hm, h⟩ := h0
    refine ⟨ob, hm, ?_⟩
    cases ob with
    | none => exact h
    | some b =>
      obtain ⟨cs, ⟨fz, hb, hfz⟩, hl, hr⟩ := h
      refine ⟨cs, ⟨fz, t.cells b _ hb rfl, hfz⟩, hl, fun i x hx => ⟨(hr i x hx).1, fun j y hy => ?_⟩⟩
      obtain ⟨u, hu, h1, hd⟩ := (hr i x hx).2 j y hy
      exact ⟨u, hu, h1, RepD.mono (fun _ h => h) (fun b o _ => t.cell b o) y hd⟩
  | map k es =>
    obtain ⟨b, l, clock, hm, hb, hst, hr⟩ := h0
    exact ⟨b, l, clock, hm, t.cells b _ hb rfl, hst, hr.mono (fun _ h => h) (fun b o _ => t.cell b o)⟩

/-- A function that leaves with marks. -/
theorem leaves_marks {P : Program} {n : Nat} {fn : Func} {tmps : Array Value} {R : Ending → World → Prop} {wS : World} : ∀ (Ds : List Nat) (w : World), Ds.Nodup → (∀ D ∈ Ds, wS.heap.size ≤ D ∧ w.heap[D]? = some (.deferred (some []))) → (∀ w', Took wS w w' → ∃ v, (results fn tmps).run P w' = .ok v w' ∧ R (.returned v) w') →
    LeavesInM (FW none) n P fn tmps R (Ds.map fun D => { target := .collected D, args := #[] }) .returning w
  | [], w, _, _, h => by
    obtain ⟨v, h1, h2⟩ := h w (.refl _ _)
    exact ⟨v, h1, h2⟩
  | D :: Ds, w, hnd, hD, h => by
    obtain ⟨hn1, hn2⟩ := List.nodup_cons.1 hnd
    obtain ⟨h1, h2⟩ := hD D (by simp)
    refine ⟨by simp, .inl ⟨D, _, rfl, run_takeDeferred h2, leaves_marks Ds _ hn2 (fun D' h' => ?_) fun w' ht => h w' ((Took.put h1 h2 rfl rfl).trans ht)⟩⟩
    obtain ⟨a1, a2⟩ := hD D' (by simp [h'])
    exact ⟨a1, (World.putObj_heap_other (by rintro rfl; exact hn1 h')).trans a2⟩

/-- What a walk knows of a state. -/
def RelS (w0 : World) (ok0 : Nat → Prop) (rr : Option Nat) (wS : World) (ρx : Nat → Value) (σ : AS) (a : Act) (w : World) : Prop :=
  ∃ m ok, Marks rr wS a w ∧ a.tmps.size = σ.n ∧ (∀ i, RepV m ok w (slot σ.t i) (valX ρx σ.n a i)) ∧ HRel w0 ok0 m ok σ.h w

def opLt (n : Nat) : Operand → Bool
  | .tmp t => decide (t < n)
  | _ => true

def axE : AX → Exit
  | .norm => .normal
  | .ret => .ret
  | .exit id => .exit id

/-- The end of a walk, as the machine's walk says it. -/
def Post (w0 : World) (ok0 : Nat → Prop) (rr : Option Nat) (wS : World) (ρx : Nat → Value) (n : Nat) (Q : AX → AS → Prop) : Exit → Act → World → Prop := fun e a w => ∃ x σ, e = axE x ∧ σ.n = n ∧ Q x σ ∧ RelS w0 ok0 rr wS ρx σ a w

/-- A range over a function, whatever it does to what is known of the call's memory. -/
def RangeS (P : Program) (g : Operand) (ps : Array Tmp) (x y : Code) (Q : AX → AS → Prop) (σ : AS) : Prop :=
  ∀ (w0 : World) (ok0 : Nat → Prop) (wS : World) (ρx : Nat → Value) (a : Act) (w : World), opLt σ.n g = true → RelS w0 ok0 none wS ρx σ a w → (Code.rangeFunc g ps x y).wpIn (FW none) 0 P (Post w0 ok0 none wS ρx σ.n Q) a w

def awp (X : Bool) (P : Program) (Y : YT) : Code → (AX → AS → Prop) → AS → Prop
  | .skip, Q, σ => Q .norm σ
  | .region _ ops false, Q, σ => awpOps P Y ops (Q .norm) ops.toList σ
  | .region _ ops true, Q, σ => if (!X && lastOnly ops.toList) = true then awpOpsD P Y ops (Q .norm) ops.toList σ else DrawS P Y ops (Q .norm) σ
  | .seq a b, Q, σ => awp X P Y a (seqQ (awp X P Y b) Q) σ
  | .cond c a b, Q, σ => condA (awp X P Y a) (awp X P Y b) Q (aev σ c) σ
  | .block id a, Q, σ => awp X P Y a (blkQ id Q) σ
  | .loop a, Q, σ => LoopA (awp X P Y a) Q σ
  | .exit id, Q, σ => Q (.exit id) σ
  | .ret, Q, σ => Q .ret σ
  | .label _, Q, σ => Q .norm σ
  | .rangeFunc g ps x y, Q, σ => RangeS P g ps x y Q σ
  | _, _, _ => False

/-- What a call of yield leads to, as the walk says it. -/
def YSound (P : Program) (Y : YT) (w0 wS : World) (ρx : Nat → Value) : Prop :=
  ∀ l σ dst xs K, Y l σ dst xs K → ∀ (ok0 : Nat → Prop) (m : List (Option Nat)) (ok : Nat → Prop) (ρ : Nat → Value) (w : World) (vs : List Value), RepL m ok w xs vs → (∀ i, RepV m ok w (slot σ.t i) (ρ i)) → HRel w0 ok0 m ok σ.h w → KeepsB wS w → (∀ i, σ.n ≤ i → ρ i = ρx i) →
    YieldAt (FW none) 0 P l vs.toArray w fun e w' => ∃ v σ' m' ok', e = .returned v ∧ KeepsB w w' ∧ σ'.n = σ.n ∧ K σ' ∧ HRel w0 ok0 m' ok' σ'.h w' ∧ ∀ i, RepV m' ok' w' (slot σ'.t i) (if dst = some i then v else ρ i)
theorem noY_sound (P : Program) (w0 wS : World) (ρx : Nat → Value) : YSound P noY w0 wS ρx := fun _ _ _ _ _ h => h.elim
variable {Y : YT}

theorem aev_ok {ρx : Nat → Value} {m : List (Option Nat)} {ok : Nat → Prop} {w : World} {σ : AS} {a : Act} (hT : TabOk ok w) (ht : ∀ i, RepV m ok w (slot σ.t i) (valX ρx σ.n a i)) {x : Operand} (hx : opLt σ.n x = true) : RepV m ok w (aev σ x) (a.eval x) := by
  cases x with
  | tmp t =>
    have := ht t
    unfold valX at this
    rw [if_pos (by simpa [opLt] using hx)] at this
    exact this
  | const v => exact cv_rep m ok w v
  | global g => exact hT.at g
  | func f => exact ⟨#[], rfl, rfl⟩

theorem callsIn_FW {r : Option Nat} {n : Nat} {P : Program} {f : FuncId} {args : Array Value} {w : World} {R : Ending → World → Prop} (h : Calls P f args w R) : CallsIn (FW r) n P f args w R := by
  have : CallsIn Fence.wide n P f args w R := callsIn_wide.2 h
  cases r with
  | none => exact this
  | some l => exact this

theorem exec_nodefer {P : Program} {ρ : Operand → Value} {o : Oper} {w : World} {Post : Value → World → Prop} (h : ExecOk P ρ o w Post) : ∀ c, o.op ≠ .defer c := by
  intro c hc
  unfold ExecOk execOp at h
  rw [hc] at h
  simp only [Sem.run_bind] at h
  cases hr : (resolve ρ c o.type).run P w with
  | ok d w' => rw [hr] at h; simp at h
  | halt x w' => rw [hr] at h; simp [Result.andThen] at h

theorem wp_of_exec {P : Program} {r : Option Nat} {o : Oper} {a : Act} {w : World} {Post : Value → World → Prop} {next : Act → World → Prop} {Q : Exit → Act → World → Prop} (h : ExecOk P a.eval o w Post) (hn : ∀ u w', Post u w' → next (a.put o.dst u) w') : o.wpIn (FW r) 0 P a w next Q := by
  refine ⟨fun _ _ => trivial, ?_⟩
  rw [Oper.semAt_eq _ _ _ (exec_nodefer h)]
  unfold ExecOk at h
  split at h
  · rename_i u w' hr
    rw [hr]
    exact hn u w' h
  · rename_i w' hr
    rw [hr]
    exact hn undef w' h
  · rename_i f args w' hr
    rw [hr]
    exact ⟨fun h => (by cases h), callsIn_FW (h.mono fun e w'' hp => by
      obtain ⟨v, rfl, hp⟩ := hp
      exact hn v w'' hp)⟩
  · rename_i l f tmps x y w' hr
    rw [hr]
    refine ⟨fun h => (by cases h), ?_⟩
    have h' : RoundIn (FW r) (0 - 1) P l f tmps x y w' (fun e w'' => ∃ v, e = .returned v ∧ Post v w'') := h
    exact RoundIn.mono h' (fun e w'' hp => by
      obtain ⟨v, rfl, hp⟩ := hp
      exact hn v w'' hp)
  · exact h.elim

theorem put_size (a : Act) (dst : Option Tmp) (v : Value) : (a.put dst v).tmps.size = a.tmps.size := by
  cases dst <;> simp [Act.put]
theorem put_defers (a : Act) (dst : Option Tmp) (v : Value) : (a.put dst v).defers = a.defers := by
  cases dst <;> rfl

def dstLt (n : Nat) : Option Tmp → Bool
  | none => true
  | some d => decide (d < n)

/-- The slots that an operation names are the call's own. -/
def opsLt (n : Nat) (o : Oper) : Bool := dstLt n o.dst && o.op.operands.all (opLt n)

theorem put_get {a : Act} {n d : Nat} (hs : a.tmps.size = n) (hd : d < n) (v : Value) (i : Nat) : (a.put (some d) v).tmps.getD i undef = if d = i then v else a.tmps.getD i undef := by
  simp only [Act.put, Array.getD_eq_getD_getElem?, Array.getElem?_setIfInBounds]
  split
  · rename_i e
    subst e
    rw [if_pos (by omega)]
    rfl
  · rfl

theorem valX_put {ρx : Nat → Value} {a : Act} {n : Nat} (hs : a.tmps.size = n) {dst : Option Tmp} (hd : dstLt n dst = true) (v : Value) (i : Nat) : valX ρx n (a.put dst v) i = if dst = some i then v else valX ρx n a i := by
  cases dst with
  | none => rw [if_neg (by simp)]; rfl
  | some d =>
    have hd' : d < n := by simpa [dstLt] using hd
    unfold valX
    rw [put_get hs hd']
    by_cases e : d = i
    · subst e
      rw [if_pos hd', if_pos rfl, if_pos rfl]
    · rw [if_neg e, if_neg (fun h => e (Option.some.inj h))]

theorem slot_upd {m m' : List (Option Nat)} {ok ok' : Nat → Prop} {w w' : World} {σ : AS} {dst : Option Tmp} {v : AV} {u : Value} {hk : Heap} {ks : List Nat} {h' : Heap} {ρ : Nat → Value} (ht : ∀ i, RepV m ok w (slot σ.t i) (ρ i)) (g : Grow hk ks m ok w m' ok' w') (hv : RepV m' ok' w' v u) (i : Nat) : RepV m' ok' w' (slot (σ.upd dst v hk ks h').t i) (if dst = some i then u else ρ i) := by
  cases dst with
  | none => rw [if_neg (by simp)]; exact killT_look g σ.t i (ht i)
  | some d =>
    show RepV m' ok' w' (if d = i then v else slot (killT hk ks σ.t) i) _
    by_cases e : d = i
    · rw [if_pos e, if_pos (by rw [e])]; exact hv
    · rw [if_neg e, if_neg (fun h => e (Option.some.inj h))]; exact killT_look g σ.t i (ht i)

theorem rel_upd {w0 : World} {ok0 : Nat → Prop} {rr : Option Nat} {wS : World} {ρx : Nat → Value} {m m' : List (Option Nat)} {ok ok' : Nat → Prop} {σ : AS} {a : Act} {w w' : World} {dst : Option Tmp} {v : AV} {u : Value} {hk : Heap} {ks : List Nat} {h' : Heap} (hdf : Marks rr wS a w) (hs : a.tmps.size = σ.n) (hd : dstLt σ.n dst = true)
    (ht : ∀ i, RepV m ok w (slot σ.t i) (valX ρx σ.n a i)) (g : Grow hk ks m ok w m' ok' w') (r : HRel w0 ok0 m' ok' h' w') (hv : RepV m' ok' w' v u) : RelS w0 ok0 rr wS ρx (σ.upd dst v hk ks h') (a.put dst u) w' := by
  have hn : (σ.upd dst v hk ks h').n = σ.n := by cases dst <;> rfl
  refine ⟨m', ok', hdf.step g.others (put_defers _ _ _), by rw [put_size, hs, hn], fun i => ?_, by cases dst <;> exact r⟩
  rw [hn, valX_put hs hd]
  exact slot_upd ht g hv i

theorem put_eq_upd (σ : AS) (dst : Option Tmp) (v : AV) : σ.put dst v = σ.upd dst v [] [] σ.h := by
  cases dst <;> rfl

/-- What an operation leads to. -/
def StepW (P : Program) (Y : YT) (σ : AS) (o : Oper) (K : AS → Prop) : Prop :=
  ∀ (w0 : World) (ok0 : Nat → Prop) (rr : Option Nat) (wS : World) (ρx : Nat → Value) (a : Act) (w : World), YSound P Y w0 wS ρx → opsLt σ.n o = true → RelS w0 ok0 rr wS ρx σ a w → ExecOk P a.eval o w (fun u w' => ∃ σ', σ'.n = σ.n ∧ K σ' ∧ RelS w0 ok0 rr wS ρx σ' (a.put o.dst u) w')

theorem ExecOk.mono {P : Program} {ρ : Operand → Value} {o : Oper} {w : World} {A B : Value → World → Prop} (h : ExecOk P ρ o w A) (hm : ∀ u w', A u w' → B u w') : ExecOk P ρ o w B := by
  unfold ExecOk at *
  split at h
  · exact hm _ _ h
  · exact hm _ _ h
  · exact h.mono fun e w'' ⟨v, he, hv⟩ => ⟨v, he, hm _ _ hv⟩
  · exact h.mono fun e w'' ⟨v, he, hv⟩ => ⟨v, he, hm _ _ hv⟩
  · exact h.elim

theorem step_of {P : Program} {σ : AS} {o : Oper} {K : AS → Prop} {v : AV} {hk : Heap} {ks : List Nat} {h' : Heap} (hK : K (σ.upd o.dst v hk ks h')) (hop : OpOkS P σ o v hk ks h') : StepW P Y σ o K := by
  intro w0 ok0 rr wS ρx a w hY hlt hr
  obtain ⟨m, ok, hdf, hs, ht, r⟩ := hr
  simp only [opsLt, Bool.and_eq_true] at hlt
  refine (hop w0 ok0 m ok a.eval w (fun x hx => aev_ok r.tab ht (Array.all_eq_true_iff_forall_mem.1 hlt.2 x hx)) r).mono fun u w' hp => ?_
  obtain ⟨m', ok', g, r', hv, _⟩ := hp
  exact ⟨_, by cases o.dst <;> rfl, hK, rel_upd hdf hs hlt.1 ht g r' hv⟩

theorem awpOp_ok {P : Program} {σ : AS} {o : Oper} {K : AS → Prop} (h : awpOp P Y σ o K) : StepW P Y σ o K := by
  unfold awpOp at h
  split at h
  · obtain ⟨v, hK, hv⟩ := apure_ok (show apure P σ o _ from h)
    exact step_of (hk := []) (ks := []) (h' := σ.h) (by rw [← put_eq_upd]; exact hK) hv.full'
  · split at h
    · obtain ⟨dst, op, type, pos, after, guard⟩ := o
      unfold callW at h
      split at h
      · rename_i f args ats heq
        simp only at heq
        subst heq
        unfold callV at h
        split at h
        · rename_i g cap hf
          intro w0 ok0 rr wS ρx a w hY hlt hr
          obtain ⟨m, ok, hdf, hs, ht, r⟩ := hr
          simp only [opsLt, Bool.and_eq_true] at hlt
          have hx : ∀ x ∈ (Op.call ⟨.value f, args, ats⟩).operands, RepV m ok w (aev σ x) (a.eval x) := fun x hx => aev_ok r.tab ht (Array.all_eq_true_iff_forall_mem.1 hlt.2 x hx)
          have q1 := hx f (by simp [Op.operands, Call.operands])
          rw [hf] at q1
          obtain ⟨vc, hv, hcap⟩ := q1
          have hargs : RepL m ok w (args.toList.map (aev σ)) (args.map a.eval).toList := by
            refine RepL.of (by simp) fun i p q h1 h2 => ?_
            simp only [List.getElem?_map, Array.toList_map, Option.map_eq_some_iff] at h1 h2
            obtain ⟨z, h1, rfl⟩ := h1
            obtain ⟨z', h2, rfl⟩ := h2
            rw [h1] at h2; cases h2
            exact hx z (by simp [Op.operands, Call.operands]; exact Or.inr (by simpa using List.mem_of_getElem? h1))
          have hrun : (execOp a.eval ⟨dst, .call ⟨.value f, args, ats⟩, type, pos, after, guard⟩).run P w = .ok (.enter g ((args.map a.eval).toList ++ vc.toList).toArray) w := by
            have e1 : ((args.map a.eval).toList ++ vc.toList).toArray = args.map a.eval ++ vc := by
              apply Array.ext'
              simp
            rw [e1]
            simp only [execOp, resolve, hv, Deferred.ofValue, Sem.run_bind, Sem.run_pure, Result.andThen_ok, invoke, Array.empty_append]
            exact h.1 _ w
          unfold ExecOk
          rw [hrun]
          refine (h.2 w0 ok0 m ok (valX ρx σ.n a) w _ (hargs.append hcap) ht r).mono fun e w' hp => ?_
          obtain ⟨v, σ', m', ok', he, hko, hn, hK, r', ht'⟩ := hp
          refine ⟨v, he, σ', hn, hK, m', ok', hdf.step hko (put_defers _ _ _), by rw [put_size, hs, hn], fun i => ?_, r'⟩
          rw [hn, valX_put hs hlt.1]
          exact ht' i
        · rename_i g fst hf
          intro w0 ok0 rr wS ρx a w hY hlt hr
          obtain ⟨m, ok, hdf, hs, ht, r⟩ := hr
          simp only [opsLt, Bool.and_eq_true] at hlt
          have hx : ∀ x ∈ (Op.call ⟨.value f, args, ats⟩).operands, RepV m ok w (aev σ x) (a.eval x) := fun x hx => aev_ok r.tab ht (Array.all_eq_true_iff_forall_mem.1 hlt.2 x hx)
          have q1 := hx f (by simp [Op.operands, Call.operands])
          rw [hf] at q1
          obtain ⟨vc, hv, hcap⟩ := q1
          have hargs : RepL m ok w (args.toList.map (aev σ)) (args.map a.eval).toList := by
            refine RepL.of (by simp) fun i p q h1 h2 => ?_
            simp only [List.getElem?_map, Array.toList_map, Option.map_eq_some_iff] at h1 h2
            obtain ⟨z, h1, rfl⟩ := h1
            obtain ⟨z', h2, rfl⟩ := h2
            rw [h1] at h2; cases h2
            exact hx z (by simp [Op.operands, Call.operands]; exact Or.inr (by simpa using List.mem_of_getElem? h1))
          have hrun : (execOp a.eval ⟨dst, .call ⟨.value f, args, ats⟩, type, pos, after, guard⟩).run P w = .ok (.enter g (vc.toList ++ (args.map a.eval).toList).toArray) w := by
            have e1 : (vc.toList ++ (args.map a.eval).toList).toArray = vc ++ args.map a.eval := by
              apply Array.ext'
              simp
            rw [e1]
            simp only [execOp, resolve, hv, Deferred.ofValue, Sem.run_bind, Sem.run_pure, Result.andThen_ok, invoke, Array.append_empty]
            exact h.1 _ w
          unfold ExecOk
          rw [hrun]
          refine (h.2 w0 ok0 m ok (valX ρx σ.n a) w _ (hcap.append hargs) ht r).mono fun e w' hp => ?_
          obtain ⟨v, σ', m', ok', he, hko, hn, hK, r', ht'⟩ := hp
          refine ⟨v, he, σ', hn, hK, m', ok', hdf.step hko (put_defers _ _ _), by rw [put_size, hs, hn], fun i => ?_, r'⟩
          rw [hn, valX_put hs hlt.1]
          exact ht' i
        · rename_i l av bv hf
          obtain ⟨rfl, rfl, hyy⟩ := h
          intro w0 ok0 rr wS ρx a w hY hlt hr
          obtain ⟨m, ok, hdf, hs, ht, r⟩ := hr
          simp only [opsLt, Bool.and_eq_true] at hlt
          have hx : ∀ x ∈ (Op.call ⟨.value f, args, ats⟩).operands, RepV m ok w (aev σ x) (a.eval x) := fun x hx => aev_ok r.tab ht (Array.all_eq_true_iff_forall_mem.1 hlt.2 x hx)
          have q1 := hx f (by simp [Op.operands, Call.operands])
          rw [hf] at q1
          simp only [RepV] at q1
          have hargs : RepL m ok w (args.toList.map (aev σ)) (args.map a.eval).toList := by
            refine RepL.of (by simp) fun i p q h1 h2 => ?_
            simp only [List.getElem?_map, Array.toList_map, Option.map_eq_some_iff] at h1 h2
            obtain ⟨z, h1, rfl⟩ := h1
            obtain ⟨z', h2, rfl⟩ := h2
            rw [h1] at h2; cases h2
            exact hx z (by simp [Op.operands, Call.operands]; exact Or.inr (by simpa using List.mem_of_getElem? h1))
          obtain ⟨fn, tmps, x, y, hy1, hy2⟩ := hY l σ dst _ K hyy ok0 m ok (valX ρx σ.n a) w _ hargs ht r hdf.1 (fun i hi => by unfold valX; rw [if_neg (by omega)])
          have hrun : (execOp a.eval ⟨dst, .call ⟨.value f, args, ats⟩, type, pos, after, guard⟩).run P w = .ok (.round l fn tmps x y) w := by
            simp only [execOp, resolve, q1, Deferred.ofValue, Sem.run_bind, Sem.run_pure, Result.andThen_ok, invoke, Array.empty_append, Array.append_empty]
            rw [Array.toArray_toList] at hy1
            exact hy1
          unfold ExecOk
          rw [hrun]
          refine RoundIn.mono hy2 fun e w' hp => ?_
          obtain ⟨v, σ', m', ok', he, hko, hn, hK, r', ht'⟩ := hp
          refine ⟨v, he, σ', hn, hK, m', ok', hdf.step hko (put_defers _ _ _), by rw [put_size, hs, hn], fun i => ?_, r'⟩
          rw [hn, valX_put hs hlt.1]
          exact ht' i
        · exact h.elim
      · exact h.elim
    · obtain ⟨v, hk, ks, h', hK, hop⟩ := astep_ok (show astep P σ o _ from h)
      exact step_of hK hop

theorem yield_ok {ρx : Nat → Value} {m : List (Option Nat)} {ok : Nat → Prop} {w : World} {ops : Array Oper} {σ : AS} {a : Act} (ht : ∀ i, RepV m ok w (slot σ.t i) (valX ρx σ.n a i)) (hall : ∀ (j : Nat) o, ops[j]? = some o → dstLt σ.n o.dst = true) {j : Nat} {b : Bool} (h : yieldA ops σ j = .c (.bool b)) : yielded ops a.tmps j = some b := by
  unfold yieldA at h
  unfold yielded
  split at h
  · rename_i d hd
    have hdn : d < σ.n := by
      rw [Option.bind_eq_some_iff] at hd
      obtain ⟨o, h1, h2⟩ := hd
      have := hall j o h1
      rw [h2] at this
      simpa [dstLt] using this
    have := ht d
    unfold valX at this
    rw [if_pos hdn] at this
    rw [h] at this
    simp only [RepV] at this
    rw [hd]
    simp only [Option.bind_some]
    have hne : a.tmps[d]? = some (.bool b) := by
      rw [Array.getD_eq_getD_getElem?] at this
      cases hq : a.tmps[d]? with
      | none => rw [hq] at this; simp [undef] at this
      | some x => rw [hq] at this; simp at this; rw [this]
    rw [hne]
  · cases h

theorem yield_none {ρx : Nat → Value} {m : List (Option Nat)} {ok : Nat → Prop} {w : World} {ops : Array Oper} {σ : AS} {a : Act} (ht : ∀ i, RepV m ok w (slot σ.t i) (valX ρx σ.n a i)) (hall : ∀ (j : Nat) o, ops[j]? = some o → dstLt σ.n o.dst = true) {j : Nat} (h : yieldA ops σ j = .tup []) : yielded ops a.tmps j = none := by
  unfold yieldA at h
  unfold yielded
  split at h
  · rename_i d hd
    have hdn : d < σ.n := by
      rw [Option.bind_eq_some_iff] at hd
      obtain ⟨o, h1, h2⟩ := hd
      have := hall j o h1
      rw [h2] at this
      simpa [dstLt] using this
    have := ht d
    unfold valX at this
    rw [if_pos hdn] at this
    rw [h] at this
    obtain ⟨vs, hv, hl⟩ := this
    rw [hd]
    simp only [Option.bind_some]
    cases hq : a.tmps[d]? with
    | none => rfl
    | some x =>
      rw [Array.getD_eq_getD_getElem?, hq] at hv
      simp at hv
      rw [hv]
  · cases h
theorem undef_rep (m : List (Option Nat)) (ok : Nat → Prop) (w : World) : RepV m ok w (.tup []) undef := ⟨#[], rfl, rfl⟩

theorem awpOps_ok {P : Program} {ops : Array Oper} {w0 : World} {ok0 : Nat → Prop} {rr : Option Nat} {wS : World} {ρx : Nat → Value} {K : AS → Prop} {Q : Exit → Act → World → Prop} {n : Nat} (hY : YSound P Y w0 wS ρx) (hall : ∀ (j : Nat) o, ops[j]? = some o → dstLt n o.dst = true) (hQ : ∀ σ a w, σ.n = n → K σ → RelS w0 ok0 rr wS ρx σ a w → Q .normal a w) : ∀ (l : List Oper) (σ : AS) (a : Act) (w : World), σ.n = n → (∀ o ∈ l, opsLt n o = true) → awpOps P Y ops K l σ → RelS w0 ok0 rr wS ρx σ a w → wpListIn (FW rr) 0 P ops Q l a w
  | [], σ, a, w, hn, _, h, hr => hQ σ a w hn h hr
  | o :: rest, σ, a, w, hn, hd, h, hr => by
    have hr0 := hr
    obtain ⟨m, ok, hdf, hs, ht, r⟩ := hr
    have hdo : opsLt σ.n o = true := by rw [hn]; exact hd o (by simp)
    have ih := awpOps_ok (P := P) (ops := ops) hY hall hQ rest
    have hr' : ∀ o' ∈ rest, opsLt n o' = true := fun o' ho => hd o' (by simp [ho])
    have go : awpOp P Y σ o (awpOps P Y ops K rest) → o.wpIn (FW rr) 0 P a w (wpListIn (FW rr) 0 P ops Q rest) Q := fun h => by
      refine wp_of_exec (awpOp_ok h w0 ok0 rr wS ρx a w hY hdo hr0) fun u w' hp => ?_
      obtain ⟨σ', hn', hK, hrel⟩ := hp
      exact ih _ _ _ (hn'.trans hn) hr' hK hrel
    unfold awpOps at h
    unfold wpListIn
    split at h
    · rename_i hg
      rw [if_pos (by simp [Region.wanted, hg])]
      exact go h
    · rename_i j want hg
      unfold guardA at h
      split at h
      · rename_i b hy
        have hyy := yield_ok ht (fun j o hj => by rw [hn]; exact hall j o hj) hy
        by_cases hb : b = want
        · rw [if_pos (by simp [Region.wanted, hg, hyy, hb])]
          exact go (h.1 hb)
        · rw [if_neg (by simp [Region.wanted, hg, hyy, hb])]
          have h2 := h.2 (by cases b <;> cases want <;> simp_all)
          simp only [opsLt, Bool.and_eq_true] at hdo
          refine ⟨fun _ _ => trivial, ?_⟩
          exact ih _ _ _ (by cases ho : o.dst <;> exact hn) hr' h2 (by rw [put_eq_upd]; exact rel_upd hdf hs hdo.1 ht (Grow.refl [] m ok w) r (undef_rep _ _ _))
      · rename_i hy
        have hyy := yield_none ht (fun j o hj => by rw [hn]; exact hall j o hj) hy
        rw [if_neg (by simp [Region.wanted, hg, hyy])]
        simp only [opsLt, Bool.and_eq_true] at hdo
        refine ⟨fun _ _ => trivial, ?_⟩
        exact ih _ _ _ (by cases ho : o.dst <;> exact hn) hr' h (by rw [put_eq_upd]; exact rel_upd hdf hs hdo.1 ht (Grow.refl [] m ok w) r (undef_rep _ _ _))
      · exact h.elim
end

-- part 15
section
open RowKit
/-! A region that draws its order. -/

theorem befs_old : ∀ (l : List Oper) (acc : List Nat) (k : Nat), k < acc.length → (befs l acc)[k]? = acc[k]?
  | [], _, _, _ => rfl
  | o :: r, acc, k, h => by
    rw [befs, befs_old r _ k (by simp; omega), List.getElem?_append_left h]

theorem befs_take : ∀ (l : List Oper) (acc : List Nat) (n : Nat), n ≤ acc.length → (befs l acc).take n = acc.take n
  | [], _, _, _ => rfl
  | o :: r, acc, n, h => by
    rw [befs, befs_take r _ n (by simp; omega), List.take_append_of_le_length h]

theorem befs_get : ∀ (l : List Oper) (acc : List Nat) (k : Nat) (o : Oper), l[k]? = some o → (befs l acc)[acc.length + k]? = some (befOne ((befs l acc).take (acc.length + k)) o)
  | [], _, _, _, h => by simp at h
  | p :: r, acc, 0, o, h => by
    simp at h
    subst h
    rw [befs, Nat.add_zero, befs_old r _ _ (by simp), befs_take r _ _ (by simp)]
    simp
  | p :: r, acc, k + 1, o, h => by
    have := befs_get r (acc ++ [befOne acc p]) k o (by simpa using h)
    rw [befs]
    rw [List.length_append, List.length_singleton, Nat.add_assoc, Nat.add_comm 1 k] at this
    exact this

theorem foldl_bit (acc : List Nat) (i : Nat) : ∀ (l : List Edge) (s : Nat), (l.foldl (fun s e => if Region.binds .any e then s ||| 2 ^ e.on ||| acc.getD e.on 0 else s) s).testBit i = true → s.testBit i = true ∨ ∃ e ∈ l, Region.binds .any e = true ∧ (e.on = i ∨ (acc.getD e.on 0).testBit i = true)
  | [], s, h => Or.inl h
  | e :: l, s, h => by
    rw [List.foldl_cons] at h
    rcases foldl_bit acc i l _ h with h1 | ⟨e', h1, h2⟩
    · split at h1
      · rename_i hb
        simp only [Nat.testBit_or, Bool.or_eq_true] at h1
        rcases h1 with (h1 | h1) | h1
        · exact Or.inl h1
        · exact Or.inr ⟨e, by simp, hb, Or.inl (by rw [Nat.testBit_two_pow] at h1; simpa using h1)⟩
        · exact Or.inr ⟨e, by simp, hb, Or.inr h1⟩
      · exact Or.inl h1
    · exact Or.inr ⟨e', by simp [h1], h2⟩

def names (ops : Array Oper) (o : Oper) : List Tmp := o.looksAt ops ++ o.dst.toList

/-- Operations that share a slot stand in an order; no edge points forward. -/
def drawOk (ops : Array Oper) : Bool :=
  let b := befs ops.toList []
  (ops.toList.zipIdx.all fun p => p.1.after.toList.all fun e => !Region.binds .any e || decide (e.on < p.2)) &&
  ops.toList.zipIdx.all fun p => ops.toList.zipIdx.all fun q => decide (q.2 ≤ p.2) || (b.getD q.2 0).testBit p.2 || (p.1.dst.toList.all fun d => !(names ops q.1).contains d) && (q.1.dst.toList.all fun d => !(names ops p.1).contains d)

theorem tailOk_full {N : Nat} {ops : Array Oper} (h : tailAt N ops = true) {i j : Nat} (hj : j < ops.size) (hk : N ≤ j) (hi : i < j) : ((befs ops.toList []).getD j 0).testBit i = true := by
  unfold tailAt at h
  have := List.all_eq_true.1 h j (by simpa using hj)
  simp only [Bool.or_eq_true, decide_eq_true_eq] at this
  rcases this with h1 | h1
  · omega
  · exact List.all_eq_true.1 h1 i (by simpa using hi)

theorem mem_zipIdx' {ops : Array Oper} {i : Nat} {o : Oper} (h : ops[i]? = some o) : (o, i) ∈ ops.toList.zipIdx := by
  rw [List.mem_iff_getElem?]
  exact ⟨i, by rw [List.getElem?_zipIdx, Array.getElem?_toList, h]; simp⟩

section
variable {ops : Array Oper} (hok : drawOk ops = true)
include hok

theorem drawOk_edge {i : Nat} {o : Oper} (h : ops[i]? = some o) : ∀ e ∈ o.after, Region.binds .any e = true → e.on < i := by
  intro e he hb
  unfold drawOk at hok
  simp only [Bool.and_eq_true] at hok
  have := List.all_eq_true.1 hok.1 _ (mem_zipIdx' h)
  have := List.all_eq_true.1 this e (by simpa using he)
  simpa [hb] using this

theorem drawOk_share {i j : Nat} {o p : Oper} (hi : ops[i]? = some o) (hj : ops[j]? = some p) (hij : i < j) (h : (∃ d, o.dst = some d ∧ d ∈ names ops p) ∨ ∃ d, p.dst = some d ∧ d ∈ names ops o) : ((befs ops.toList []).getD j 0).testBit i = true := by
  unfold drawOk at hok
  simp only [Bool.and_eq_true] at hok
  have := List.all_eq_true.1 (List.all_eq_true.1 hok.2 _ (mem_zipIdx' hi)) _ (mem_zipIdx' hj)
  simp only [Bool.or_eq_true, decide_eq_true_eq, Bool.and_eq_true] at this
  rcases this with (h1 | h1) | h1
  · omega
  · exact h1
  · exfalso
    rcases h with ⟨d, h2, h3⟩ | ⟨d, h2, h3⟩
    · have := List.all_eq_true.1 h1.1 d (by simp [h2])
      simp at this
      exact this h3
    · have := List.all_eq_true.1 h1.2 d (by simp [h2])
      simp at this
      exact this h3

/-- What must come before has come. -/
theorem before_listed {L : Nat → Prop} (hcl : ∀ j o, ops[j]? = some o → L j → ∀ e ∈ o.after, Region.binds .any e = true → L e.on) :
    ∀ (n j : Nat), j < n → ∀ o, ops[j]? = some o → (∀ e ∈ o.after, Region.binds .any e = true → L e.on) → ∀ i, ((befs ops.toList []).getD j 0).testBit i = true → L i
  | 0, _, h, _, _, _, _, _ => by omega
  | n + 1, j, hj, o, ho, he, i, hb => by
    have hg := befs_get ops.toList [] j o (by simpa using ho)
    rw [List.length_nil, Nat.zero_add] at hg
    rw [List.getD_eq_getElem?_getD, hg, Option.getD_some] at hb
    rcases foldl_bit _ i _ _ hb with h1 | ⟨e, h1, h2, h3⟩
    · simp at h1
    · have he' : e ∈ o.after := by simpa using h1
      have hlt := drawOk_edge hok ho e he' h2
      have hL := he e he' h2
      rcases h3 with h3 | h3
      · exact h3 ▸ hL
      · have hlen : e.on < ops.size := by have := (Array.getElem?_eq_some_iff.1 ho).1; omega
        refine before_listed hcl n e.on (by omega) ops[e.on] (by simp [hlen]) (hcl e.on _ (by simp [hlen]) hL) i ?_
        rw [List.getD_eq_getElem?_getD, List.getElem?_take] at h3
        rw [List.getD_eq_getElem?_getD]
        rw [if_pos hlt] at h3
        exact h3
end

/-- The slots behind those operations that p names. -/
def cur (p : Nat → Bool) : List Oper → List AV → Nat → List (Nat × AV) → List (Nat × AV)
  | o :: l, v :: vs, k, t => cur p l vs (k + 1) (match o.dst with | some d => if p k then (d, v) :: t else t | none => t)
  | _, _, _, t => t

theorem cur_look {p q : Nat → Bool} {s : Nat} : ∀ (l : List Oper) (vs : List AV) (k : Nat) (t t' : List (Nat × AV)), slot t s = slot t' s → (∀ j o, l[j]? = some o → o.dst = some s → p (k + j) = q (k + j)) → slot (cur p l vs k t) s = slot (cur q l vs k t') s
  | [], _, _, _, _, h, _ => by simpa [cur] using h
  | o :: l, [], _, _, _, h, _ => by simpa [cur] using h
  | o :: l, v :: vs, k, t, t', h, hp => by
    rw [cur, cur]
    refine cur_look l vs (k + 1) _ _ ?_ fun j o' hj hd => by
      have := hp (j + 1) o' (by simpa using hj) hd
      rwa [show k + (j + 1) = k + 1 + j by omega] at this
    cases hd : o.dst with
    | none => exact h
    | some d =>
      simp only
      by_cases e : d = s
      · subst e
        have := hp 0 o rfl hd
        rw [Nat.add_zero] at this
        rw [this]
        cases q k <;> simp [slot, h]
      · cases p k <;> cases q k <;> simp [slot, e, h]

theorem cur_none : ∀ (l : List Oper) (vs : List AV) (k : Nat) (t : List (Nat × AV)) (p : Nat → Bool), (∀ j, k ≤ j → p j = false) → cur p l vs k t = t
  | [], _, _, _, _, _ => by simp [cur]
  | o :: l, [], _, _, _, _ => by simp [cur]
  | o :: l, v :: vs, k, t, p, h => by
    rw [cur, h k (Nat.le_refl _), cur_none l vs (k + 1) _ p fun j hj => h j (by omega)]
    cases o.dst <;> rfl

/-- The slot of the operation that has just been carried out. -/
theorem cur_set {p : Nat → Bool} {s : Nat} : ∀ (l : List Oper) (vs : List AV) (k : Nat) (t : List (Nat × AV)) (i : Nat) (o : Oper) (v : AV), l[i]? = some o → vs[i]? = some v → o.dst = some s → p (k + i) = true → (∀ j o', i < j → l[j]? = some o' → o'.dst = some s → p (k + j) = false) → slot (cur p l vs k t) s = v
  | [], _, _, _, _, _, _, h, _, _, _, _ => by simp at h
  | o :: l, [], _, _, _, _, _, _, h, _, _, _ => by simp at h
  | o :: l, v :: vs, k, t, 0, o', v', ho, hv, hd, hp, hn => by
    simp at ho hv
    subst ho hv
    rw [Nat.add_zero] at hp
    rw [cur, hd]
    simp only [hp, if_true]
    rw [cur_look (q := fun _ => false) l vs (k + 1) _ ((s, v) :: t) rfl fun j o' hj hd' => by
      have := hn (j + 1) o' (by omega) (by simpa using hj) hd'
      rwa [show k + (j + 1) = k + 1 + j by omega] at this]
    rw [cur_none _ _ _ _ _ fun _ _ => rfl]
    simp [slot]
  | o :: l, v :: vs, k, t, i + 1, o', v', ho, hv, hd, hp, hn => by
    rw [cur]
    refine cur_set l vs (k + 1) _ i o' v' (by simpa using ho) (by simpa using hv) hd (by rwa [show k + 1 + i = k + (i + 1) by omega]) fun j o2 hij hj hd' => by
      have := hn (j + 1) o2 (by omega) (by simpa using hj) hd'
      rwa [show k + (j + 1) = k + 1 + j by omega] at this
end

-- part 16
section
open RowKit
variable {Y : YT}

def StepD (P : Program) (ops : Array Oper) (σ : AS) (o : Oper) (v : AV) : Prop :=
  match o.guard with
  | none => OpOkS P σ o v [] [] σ.h
  | some (j, want) => (∃ b, yieldA ops σ j = .c (.bool b) ∧ ((b = want ∧ OpOkS P σ o v [] [] σ.h) ∨ (b = (!want) ∧ v = .tup []))) ∨ (yieldA ops σ j = .tup [] ∧ v = .tup [])

def TrD (P : Program) (ops : Array Oper) : AS → List Oper → List AV → Prop
  | _, [], [] => True
  | σ, o :: l, v :: vs => StepD P ops σ o v ∧ TrD P ops (σ.put o.dst v) l vs
  | _, _, _ => False

theorem awpOpD_ok {P : Program} {σ : AS} {o : Oper} {K : AS → Prop} (h : awpOpD P σ o K) : ∃ v, K (σ.put o.dst v) ∧ OpOkS P σ o v [] [] σ.h := by
  unfold awpOpD at h
  split at h
  · obtain ⟨v, hK, hv⟩ := apure_ok (show apure P σ o _ from h)
    exact ⟨v, hK, hv.full'⟩
  · by_cases hbs : isBS o.op = true
    · have hnc : isCallV o.op ≠ true := by
        intro hc
        cases hq : o.op <;> rw [hq] at hbs hc <;> simp_all [isBS, isCallV]
      rw [if_neg hnc, if_pos hbs] at h
      obtain ⟨dst, op, type, pos, after, guard⟩ := o
      unfold bsDO at h
      split at h
      · rename_i heq
        simp only at heq
        subst heq
        exact step_buildSliceD h
      · exact h.elim
    have key : astep P σ o (updD σ o.dst K) := by
      split at h
      · unfold callWD at h
        split at h
        · rename_i f args ats heq
          unfold callVD at h
          split at h
          · rename_i g cap hf
            obtain ⟨ds, res, hds, hm, hc, hK⟩ := h
            unfold astep astepO
            rw [heq]
            simp only [hf]
            rw [hds]
            exact ⟨res, hm, by rw [if_pos hc]; exact ⟨rfl, rfl, rfl, hK⟩⟩
          · exact h.elim
        · exact h.elim
      · first
          | exact h
          | (rw [if_neg hbs] at h; exact h)
    obtain ⟨v, hk, ks, h', ⟨rfl, rfl, rfl, hK⟩, hop⟩ := astep_ok key
    exact ⟨v, hK, hop⟩

theorem trace {P : Program} {ops : Array Oper} {K : AS → Prop} : ∀ (l : List Oper) (σ : AS), awpOpsD P Y ops K l σ → ∃ vs, vs.length = keepN l ∧ TrD P ops σ (l.take (keepN l)) vs ∧ ∀ k, awpOps P Y ops K (l.drop (keepN l)) ⟨σ.n, cur (fun _ => true) (l.take (keepN l)) vs k σ.t, σ.h⟩
  | [], σ, h => ⟨[], rfl, trivial, fun k => (show K σ from h)⟩
  | o :: l, σ, h => by
    unfold awpOpsD at h
    split at h
    · rename_i hkeep
      have hk : keepN (o :: l) = keepN l + 1 := by simp [keepN, List.takeWhile_cons, hkeep]
      rw [hk]
      have go : ∀ v, awpOpsD P Y ops K l (σ.put o.dst v) → StepD P ops σ o v → ∃ vs, vs.length = keepN l + 1 ∧ TrD P ops σ ((o :: l).take (keepN l + 1)) vs ∧ ∀ k, awpOps P Y ops K ((o :: l).drop (keepN l + 1)) ⟨σ.n, cur (fun _ => true) ((o :: l).take (keepN l + 1)) vs k σ.t, σ.h⟩ := fun v hK hs => by
        obtain ⟨vs, h1, h2, h3⟩ := trace l _ hK
        refine ⟨v :: vs, by simp [h1], ⟨hs, h2⟩, fun k => ?_⟩
        have := h3 (k + 1)
        rw [List.take_succ_cons, List.drop_succ_cons, cur]
        cases hd : o.dst with
        | none => rw [hd] at this; exact this
        | some d => rw [hd] at this; exact this
      split at h
      · rename_i hg
        obtain ⟨v, hK, hop⟩ := awpOpD_ok h
        exact go v hK (by unfold StepD; rw [hg]; exact hop)
      · rename_i j want hg
        unfold guardA at h
        split at h
        · rename_i b hy
          by_cases hb : b = want
          · obtain ⟨v, hK, hop⟩ := awpOpD_ok (h.1 hb)
            exact go v hK (by unfold StepD; rw [hg]; exact Or.inl ⟨b, hy, Or.inl ⟨hb, hop⟩⟩)
          · have hb2 : b = (!want) := by cases b <;> cases want <;> simp_all
            exact go (.tup []) (h.2 hb2) (by unfold StepD; rw [hg]; exact Or.inl ⟨b, hy, Or.inr ⟨hb2, rfl⟩⟩)
        · rename_i hy
          exact go (.tup []) h (by unfold StepD; rw [hg]; exact Or.inr ⟨hy, rfl⟩)
        · exact h.elim
    · rename_i hkeep
      have hk : keepN (o :: l) = 0 := by simp [keepN, List.takeWhile_cons, hkeep]
      rw [hk]
      exact ⟨[], rfl, trivial, fun k => h⟩

theorem traceN {P : Program} {ops : Array Oper} {K : AS → Prop} : ∀ (n : Nat) (l : List Oper) (σ : AS), n ≤ l.length → awpOpsN P Y ops K n l σ → ∃ vs, vs.length = n ∧ TrD P ops σ (l.take n) vs ∧ ∀ k, awpOps P Y ops K (l.drop n) ⟨σ.n, cur (fun _ => true) (l.take n) vs k σ.t, σ.h⟩
  | 0, l, σ, _, h => ⟨[], rfl, by rw [List.take_zero]; trivial, fun k => by rw [List.take_zero]; exact h⟩
  | n + 1, [], σ, hl, h => by simp at hl
  | n + 1, o :: l, σ, hl, h => by
    unfold awpOpsN at h
    have go : ∀ v, awpOpsN P Y ops K n l (σ.put o.dst v) → StepD P ops σ o v → ∃ vs, vs.length = n + 1 ∧ TrD P ops σ ((o :: l).take (n + 1)) vs ∧ ∀ k, awpOps P Y ops K ((o :: l).drop (n + 1)) ⟨σ.n, cur (fun _ => true) ((o :: l).take (n + 1)) vs k σ.t, σ.h⟩ := fun v hK hs => by
      obtain ⟨vs, h1, h2, h3⟩ := traceN n l _ (by simpa using hl) hK
      refine ⟨v :: vs, by simp [h1], ⟨hs, h2⟩, fun k => ?_⟩
      have := h3 (k + 1)
      rw [List.take_succ_cons, List.drop_succ_cons, cur]
      cases hd : o.dst with
      | none => rw [hd] at this; exact this
      | some d => rw [hd] at this; exact this
    split at h
    · rename_i hg
      obtain ⟨v, hK, hop⟩ := awpOpD_ok h
      exact go v hK (by unfold StepD; rw [hg]; exact hop)
    · rename_i j want hg
      unfold guardA at h
      split at h
      · rename_i b hy
        by_cases hb : b = want
        · obtain ⟨v, hK, hop⟩ := awpOpD_ok (h.1 hb)
          exact go v hK (by unfold StepD; rw [hg]; exact Or.inl ⟨b, hy, Or.inl ⟨hb, hop⟩⟩)
        · have hb2 : b = (!want) := by cases b <;> cases want <;> simp_all
          exact go (.tup []) (h.2 hb2) (by unfold StepD; rw [hg]; exact Or.inl ⟨b, hy, Or.inr ⟨hb2, rfl⟩⟩)
      · rename_i hy
        exact go (.tup []) h (by unfold StepD; rw [hg]; exact Or.inr ⟨hy, rfl⟩)
      · exact h.elim

theorem TrD.get {P : Program} {ops : Array Oper} : ∀ {l : List Oper} {vs : List AV} {σ : AS} (k i : Nat) {o : Oper} {v : AV}, TrD P ops σ l vs → l[i]? = some o → vs[i]? = some v → StepD P ops ⟨σ.n, cur (fun j => decide (j < k + i)) l vs k σ.t, σ.h⟩ o v
  | [], _, _, _, _, _, _, _, h, _ => by simp at h
  | o :: l, [], _, _, _, _, _, _, _, h => by simp at h
  | o :: l, v :: vs, σ, k, 0, _, _, ⟨hs, _⟩, h1, h2 => by
    simp at h1 h2
    subst h1 h2
    rw [cur_none _ _ _ _ _ fun j hj => by simpa using hj]
    exact hs
  | o :: l, v :: vs, σ, k, i + 1, o', v', ⟨_, ht⟩, h1, h2 => by
    have := TrD.get (k + 1) i ht (by simpa using h1) (by simpa using h2)
    rw [cur]
    simp only [show k < k + (i + 1) by omega, decide_true, if_true]
    rw [show k + 1 + i = k + (i + 1) by omega] at this
    cases hd : o.dst with
    | none => rw [hd] at this; exact this
    | some d => rw [hd] at this; exact this

theorem countP_lt {p q : Nat → Bool} : ∀ (l : List Nat), (∀ x ∈ l, q x = true → p x = true) → (∃ x ∈ l, p x = true ∧ q x = false) → l.countP q < l.countP p
  | [], _, ⟨x, hx, _⟩ => by simp at hx
  | y :: l, h, ⟨x, hx, h1, h2⟩ => by
    have hle : l.countP q ≤ l.countP p := List.countP_mono_left fun z hz => h z (by simp [hz])
    rw [List.countP_cons, List.countP_cons]
    rcases List.mem_cons.1 hx with rfl | hx
    · simp [h1, h2]; omega
    · have := countP_lt l (fun z hz => h z (by simp [hz])) ⟨x, hx, h1, h2⟩
      by_cases hq : q y = true
      · simp [hq, h y (by simp) hq]; omega
      · simp [hq]; split <;> omega

theorem set_hit {listed : Array Bool} {i : Nat} (h : i < listed.size) (j : Nat) : (listed.setIfInBounds i true).getD j false = if j = i then true else listed.getD j false := by
  by_cases hji : j = i
  · subst hji
    rw [if_pos rfl]
    simp [h]
  · rw [if_neg hji, getD_set_ne false (Ne.symm hji)]

theorem count_set {listed : Array Bool} {i n fuel : Nat} (hi : i < n) (hs : i < listed.size) (hu : listed.getD i false = false) (h : (List.range n).countP (fun i => !listed.getD i false) ≤ fuel + 1) : (List.range n).countP (fun j => !(listed.setIfInBounds i true).getD j false) ≤ fuel := by
  have : (List.range n).countP (fun j => !(listed.setIfInBounds i true).getD j false) < (List.range n).countP (fun j => !listed.getD j false) := by
    refine countP_lt _ (fun j _ hj => ?_) ⟨i, by simpa using hi, by simp only [hu, Bool.not_false], by rw [set_hit hs, if_pos rfl]; rfl⟩
    rw [set_hit hs] at hj
    split at hj
    · cases hj
    · exact hj
  omega

theorem unlisted {listed : Array Bool} {i : Nat} (hs : i < listed.size) (h : listed.getD i true = false) : listed.getD i false = false := by
  simp only [Array.getD_eq_getD_getElem?] at h ⊢
  rw [Array.getElem?_eq_getElem hs] at h ⊢
  exact h

theorem ready_min {ops : Array Oper} (hok : drawOk ops = true) {listed : Array Bool} (hs : listed.size = ops.size) : ∀ (n i : Nat), i < n → i < ops.size → listed.getD i false = false → ∃ j, j ≤ i ∧ j ∈ Region.ready .any ops listed
  | 0, _, h, _, _ => by omega
  | n + 1, i, hin, hi, hu => by
    by_cases hall : ∀ e ∈ ops[i].after, Region.binds .any e = true → listed.getD e.on false = true
    · refine ⟨i, Nat.le_refl _, mem_ready.2 ⟨?_, ops[i], by simp [hi], hall⟩⟩
      simp only [Array.getD_eq_getD_getElem?] at hu ⊢
      rw [Array.getElem?_eq_getElem (by omega)] at hu ⊢
      exact hu
    · obtain ⟨e, he, hb, hne⟩ : ∃ e, e ∈ ops[i].after ∧ Region.binds .any e = true ∧ listed.getD e.on false ≠ true := by
        refine Classical.byContradiction fun hx => hall fun e he hb => ?_
        exact Classical.byContradiction fun hn => hx ⟨e, he, hb, hn⟩
      have hlt := drawOk_edge hok (i := i) (o := ops[i]) (by simp [hi]) e he hb
      obtain ⟨j, h1, h2⟩ := ready_min hok hs n e.on (by omega) (by omega) (by simpa using hne)
      exact ⟨j, by omega, h2⟩

/-- What comes behind all else goes in the order of the text. -/
theorem seq_ok {P : Program} {ops : Array Oper} {w0 : World} {ok0 : Nat → Prop} {rr : Option Nat} {wS : World} {ρx : Nat → Value} {K : AS → Prop} {Q : Exit → Act → World → Prop} {n : Nat} (hY : YSound P Y w0 wS ρx) (hok : drawOk ops = true) {N : Nat} (htl : tailAt N ops = true) (hds : ∀ o ∈ ops.toList, opsLt n o = true) (hQ : ∀ σ a w, σ.n = n → K σ → RelS w0 ok0 rr wS ρx σ a w → Q .normal a w) :
    ∀ (fuel t : Nat) (listed : Array Bool) (σ : AS) (a : Act) (w : World), N ≤ t → t ≤ ops.size → listed.size = ops.size → (∀ j, listed.getD j false = decide (j < t)) → (List.range ops.size).countP (fun i => !listed.getD i false) ≤ fuel → σ.n = n → awpOps P Y ops K (ops.toList.drop t) σ → RelS w0 ok0 rr wS ρx σ a w → wpAnyIn (FW rr) 0 P .any ops Q fuel listed a w := by
  have only : ∀ (t : Nat) (listed : Array Bool) (i : Nat), N ≤ t → listed.size = ops.size → (∀ j, listed.getD j false = decide (j < t)) → i ∈ Region.ready .any ops listed → i = t ∧ t < ops.size := fun t listed i hk hs hl hi => by
    obtain ⟨hun, o, ho, hpre⟩ := mem_ready.1 hi
    have hisz := (Array.getElem?_eq_some_iff.1 ho).1
    have h0 := unlisted (by omega) hun
    rw [hl i] at h0
    have h0 : t ≤ i := by simpa using h0
    rcases Nat.eq_or_lt_of_le h0 with h | h
    · exact ⟨h.symm, by omega⟩
    · exfalso
      have hcl : ∀ j o, ops[j]? = some o → listed.getD j false = true → ∀ e ∈ o.after, Region.binds .any e = true → listed.getD e.on false = true := fun j o hj hlj e he hb => by
        have := drawOk_edge hok hj e he hb
        rw [hl j] at hlj
        rw [hl e.on]
        have : j < t := by simpa using hlj
        exact decide_eq_true (by omega)
      have := before_listed hok (L := fun k => listed.getD k false = true) hcl (i + 1) i (by omega) o ho hpre t (tailOk_full htl hisz (by omega) h)
      rw [hl t] at this
      simp at this
  intro fuel
  induction fuel with
  | zero =>
    intro t listed σ a w hk ht hs hl hf hn h hr
    have hall : ∀ i, i < ops.size → listed.getD i false = true := fun i hi => by
      have h0 : (List.range ops.size).countP (fun i => !listed.getD i false) = 0 := by omega
      rw [List.countP_eq_zero] at h0
      have := h0 i (by simpa using hi)
      simpa using this
    have htt : t = ops.size := by
      rcases Nat.lt_or_ge t ops.size with h1 | h1
      · have := hall t h1; rw [hl t] at this; simp at this
      · omega
    rw [htt, List.drop_of_length_le (by simp)] at h
    refine ⟨?_, hQ σ a w hn h hr⟩
    cases hrd : Region.ready .any ops listed with
    | nil => rfl
    | cons i r =>
      have := (only t listed i hk hs hl (by rw [hrd]; simp)).2
      omega
  | succ fuel ih =>
    intro t listed σ a w hk ht hs hl hf hn h hr
    refine ⟨fun hnil => ?_, fun i hi => ?_⟩
    · have htt : t = ops.size := by
        rcases Nat.lt_or_ge t ops.size with h1 | h1
        · obtain ⟨j, _, hj⟩ := ready_min hok hs (t + 1) t (by omega) h1 (by rw [hl t]; simp)
          rw [hnil] at hj; cases hj
        · omega
      rw [htt, List.drop_of_length_le (by simp)] at h
      exact hQ σ a w hn h hr
    · obtain ⟨rfl, hisz⟩ := only t listed i hk hs hl hi
      obtain ⟨hun, o, ho, hpre⟩ := mem_ready.1 hi
      have hd : ops.toList.drop i = o :: ops.toList.drop (i + 1) := by
        have ho' : ops[i] = o := (Array.getElem?_eq_some_iff.1 ho).2
        rw [List.drop_eq_getElem_cons (by simpa using hisz)]
        simp [ho']
      rw [hd] at h
      have hr0 := hr
      obtain ⟨m, ok, hdf, hsz, htm, r⟩ := hr
      have hdo : opsLt σ.n o = true := by rw [hn]; exact hds o (by simpa using Array.mem_of_getElem? ho)
      have hcount := count_set hisz (by omega) (unlisted (by omega) hun) hf
      have hl' : ∀ j, (listed.setIfInBounds i true).getD j false = decide (j < i + 1) := fun j => by
        rw [set_hit (by omega), hl j]
        by_cases hji : j = i
        · simp [hji]
        · rw [if_neg hji]
          exact decide_eq_decide.2 (by omega)
      have next := fun σ' a' w' => ih (i + 1) (listed.setIfInBounds i true) σ' a' w' (by omega) (by omega) (by simpa using hs) hl' hcount
      have go : awpOp P Y σ o (awpOps P Y ops K (ops.toList.drop (i + 1))) → o.wpIn (FW rr) 0 P a w (wpAnyIn (FW rr) 0 P .any ops Q fuel (listed.setIfInBounds i true)) Q := fun h => by
        refine wp_of_exec (awpOp_ok h w0 ok0 rr wS ρx a w hY hdo hr0) fun u w' hp => ?_
        obtain ⟨σ', hn', hK, hrel⟩ := hp
        exact next _ _ _ (hn'.trans hn) hK hrel
      unfold awpOps at h
      unfold wpOpIn
      simp only [ho]
      split at h
      · rename_i hg
        rw [if_pos (by simp [Region.wanted, hg])]
        exact go h
      · rename_i j want hg
        unfold guardA at h
        split at h
        · rename_i b hy
          have hyy := yield_ok htm (fun j o hj => by
            have := hds o (by simpa using Array.mem_of_getElem? hj)
            rw [hn]
            simp only [opsLt, Bool.and_eq_true] at this
            exact this.1) hy
          by_cases hb : b = want
          · rw [if_pos (by simp [Region.wanted, hg, hyy, hb])]
            exact go (h.1 hb)
          · rw [if_neg (by simp [Region.wanted, hg, hyy, hb])]
            have h2 := h.2 (by cases b <;> cases want <;> simp_all)
            simp only [opsLt, Bool.and_eq_true] at hdo
            refine ⟨fun _ _ => trivial, ?_⟩
            exact next _ _ _ (by cases hq : o.dst <;> exact hn) h2 (by rw [put_eq_upd]; exact rel_upd hdf hsz hdo.1 htm (Grow.refl [] m ok w) r (undef_rep _ _ _))
        · rename_i hy
          have hyy := yield_none htm (fun j o hj => by
            have := hds o (by simpa using Array.mem_of_getElem? hj)
            rw [hn]
            simp only [opsLt, Bool.and_eq_true] at this
            exact this.1) hy
          rw [if_neg (by simp [Region.wanted, hg, hyy])]
          simp only [opsLt, Bool.and_eq_true] at hdo
          refine ⟨fun _ _ => trivial, ?_⟩
          exact next _ _ _ (by cases hq : o.dst <;> exact hn) h (by rw [put_eq_upd]; exact rel_upd hdf hsz hdo.1 htm (Grow.refl [] m ok w) r (undef_rep _ _ _))
        · exact h.elim

/-- What holds when those operations that are listed have been carried out. -/
structure InvD (w0 : World) (ok0 : Nat → Prop) (rr : Option Nat) (wS : World) (ρx : Nat → Value) (σ : AS) (ops : Array Oper) (N : Nat) (vs : List AV) (listed : Array Bool) (a : Act) (w : World) : Prop where
  sz : listed.size = ops.size
  cl : ∀ j o, ops[j]? = some o → listed.getD j false = true → ∀ e ∈ o.after, Region.binds .any e = true → listed.getD e.on false = true
  lo : ∀ j, listed.getD j false = true → j < N
  rel : ∃ m ok, Marks rr wS a w ∧ a.tmps.size = σ.n ∧ (∀ i, RepV m ok w (slot (cur (fun j => listed.getD j false) (ops.toList.take (N)) vs 0 σ.t) i) (valX ρx σ.n a i)) ∧ HRel w0 ok0 m ok σ.h w

theorem keepN_le : ∀ (l : List Oper), keepN l ≤ l.length := fun l => (List.takeWhile_sublist _).length_le

theorem draw_ok {P : Program} {ops : Array Oper} {w0 : World} {ok0 : Nat → Prop} {rr : Option Nat} {wS : World} {ρx : Nat → Value} {σ : AS} {vs : List AV} {K : AS → Prop} {Q : Exit → Act → World → Prop} (hY : YSound P Y w0 wS ρx) (hok : drawOk ops = true) {N : Nat} (htl : tailAt N ops = true) (hkl : N ≤ ops.size) (hvl : vs.length = N) (htr : TrD P ops σ (ops.toList.take (N)) vs) (hds : ∀ o ∈ ops.toList, opsLt σ.n o = true)
    (hQ : ∀ σ' a w, σ'.n = σ.n → K σ' → RelS w0 ok0 rr wS ρx σ' a w → Q .normal a w) (hrest : awpOps P Y ops K (ops.toList.drop (N)) ⟨σ.n, cur (fun _ => true) (ops.toList.take (N)) vs 0 σ.t, σ.h⟩) :
    ∀ (fuel : Nat) (listed : Array Bool) (a : Act) (w : World), (List.range ops.size).countP (fun i => !listed.getD i false) ≤ fuel → InvD w0 ok0 rr wS ρx σ ops N vs listed a w → wpAnyIn (FW rr) 0 P .any ops Q fuel listed a w := by
  have tk : ∀ {j : Nat} {o' : Oper}, (ops.toList.take (N))[j]? = some o' → ops[j]? = some o' := fun {j o'} hj => by
    rw [List.getElem?_take] at hj
    split at hj
    · simpa using hj
    · cases hj
  have done : ∀ (fuel : Nat) (listed : Array Bool) (a : Act) (w : World), (List.range ops.size).countP (fun i => !listed.getD i false) ≤ fuel → InvD w0 ok0 rr wS ρx σ ops N vs listed a w → (∀ i, i < N → listed.getD i false = true) → wpAnyIn (FW rr) 0 P .any ops Q fuel listed a w := fun fuel listed a w hf inv hall => by
    obtain ⟨m, ok, h1, h2, h3, h4⟩ := inv.rel
    refine seq_ok hY hok htl hds hQ fuel (N) listed ⟨σ.n, cur (fun _ => true) (ops.toList.take (N)) vs 0 σ.t, σ.h⟩ a w (Nat.le_refl _) hkl inv.sz (fun j => ?_) hf rfl hrest ⟨m, ok, h1, h2, fun s => ?_, h4⟩
    · by_cases hj : j < N
      · rw [hall j hj]; simp [hj]
      · cases hb : listed.getD j false with
        | true => exact absurd (inv.lo j hb) hj
        | false => simp [hj]
    · have := h3 s
      rwa [cur_look (q := fun _ => true) (ops.toList.take (N)) vs 0 _ σ.t rfl fun j o hj _ => by
        rw [Nat.zero_add]
        rw [List.getElem?_take] at hj
        split at hj
        · exact hall j (by assumption)
        · cases hj] at this
  intro fuel
  induction fuel with
  | zero =>
    intro listed a w hf inv
    refine done 0 listed a w hf inv fun i hi => ?_
    have h0 : (List.range ops.size).countP (fun i => !listed.getD i false) = 0 := by omega
    rw [List.countP_eq_zero] at h0
    have := h0 i (by simp; omega)
    simpa using this
  | succ fuel ih =>
    intro listed a w hf inv
    by_cases hall : ∀ i, i < N → listed.getD i false = true
    · exact done _ listed a w hf inv hall
    have hex : ∃ i, i < N ∧ listed.getD i false = false := by
      refine Classical.byContradiction fun hx => hall fun i hi => ?_
      cases hb : listed.getD i false with
      | true => rfl
      | false => exact absurd ⟨i, hi, hb⟩ hx
    obtain ⟨i0, hi0, hu0⟩ := hex
    refine ⟨fun hnil => ?_, fun i hi => ?_⟩
    · obtain ⟨j, _, hj⟩ := ready_min hok inv.sz (i0 + 1) i0 (by omega) (by omega) hu0
      rw [hnil] at hj; cases hj
    obtain ⟨hun, o, ho, hpre⟩ := mem_ready.1 hi
    have hisz := (Array.getElem?_eq_some_iff.1 ho).1
    have hils : i < listed.size := by rw [inv.sz]; exact hisz
    have hun' : listed.getD i false = false := unlisted hils hun
    have hik : i < N := by
      rcases Nat.lt_or_ge i (N) with h | h
      · exact h
      · have := before_listed hok (L := fun k => listed.getD k false = true) inv.cl (i + 1) i (by omega) o ho hpre i0 (tailOk_full htl hisz h (by omega))
        simp only [hu0] at this
        cases this
    have hot : (ops.toList.take (N))[i]? = some o := by rw [List.getElem?_take, if_pos hik]; simpa using ho
    obtain ⟨m, ok, hdf, hsz, ht, r⟩ := inv.rel
    have hiv : i < vs.length := by omega
    have hstep := TrD.get 0 i htr hot (List.getElem?_eq_getElem hiv)
    rw [Nat.zero_add] at hstep
    -- the slots that this operation names read as in the order of the text
    have same : ∀ t, t ∈ names ops o → slot (cur (fun j => decide (j < i)) (ops.toList.take (N)) vs 0 σ.t) t = slot (cur (fun j => listed.getD j false) (ops.toList.take (N)) vs 0 σ.t) t := fun t htn =>
      cur_look (ops.toList.take (N)) vs 0 _ _ rfl fun j o' hj hd => by
        rw [Nat.zero_add]
        have hj' : ops[j]? = some o' := tk hj
        rcases Nat.lt_trichotomy j i with h | h | h
        · have := drawOk_share hok hj' ho h (Or.inl ⟨t, hd, htn⟩)
          have := before_listed hok (L := fun k => listed.getD k false = true) inv.cl (i + 1) i (by omega) o ho hpre j this
          simp [h, this]
        · subst h; simp [hun']
        · have h0 : listed.getD j false = false := by
            cases hb : listed.getD j false with
            | false => rfl
            | true =>
              have h1 := drawOk_share hok ho hj' h (Or.inr ⟨t, hd, htn⟩)
              have := before_listed hok (L := fun k => listed.getD k false = true) inv.cl (j + 1) j (by omega) o' hj' (inv.cl j o' hj' hb) i h1
              rw [hun'] at this; cases this
          have hnl : ¬ j < i := by omega
          simp [h0, hnl]
    have ht' : ∀ t, t ∈ names ops o → RepV m ok w (slot (cur (fun j => decide (j < i)) (ops.toList.take (N)) vs 0 σ.t) t) (valX ρx σ.n a t) := fun t htn => by rw [same t htn]; exact ht t
    have hlo : opsLt σ.n o = true := hds o (by simpa using Array.mem_of_getElem? ho)
    simp only [opsLt, Bool.and_eq_true] at hlo
    have hx : ∀ x ∈ o.op.operands, RepV m ok w (aev ⟨σ.n, cur (fun j => decide (j < i)) (ops.toList.take (N)) vs 0 σ.t, σ.h⟩ x) (a.eval x) := fun x hx => by
      cases x with
      | tmp t =>
        have h1 := ht' t (by
          unfold names Oper.looksAt
          simp only [List.mem_append, List.mem_filterMap]
          exact Or.inl (Or.inl ⟨.tmp t, by simpa using hx, rfl⟩))
        have h2 := Array.all_eq_true_iff_forall_mem.1 hlo.2 _ hx
        unfold valX at h1
        rw [if_pos (by simpa [opLt] using h2)] at h1
        exact h1
      | const v => exact cv_rep m ok w v
      | global g => exact r.tab.at g
      | func f => exact ⟨#[], rfl, rfl⟩
    -- what is known behind it
    have next : ∀ (m' : List (Option Nat)) (ok' : Nat → Prop) (u : Value) (w' : World), Grow [] [] m ok w m' ok' w' → HRel w0 ok0 m' ok' σ.h w' → RepV m' ok' w' vs[i] u → InvD w0 ok0 rr wS ρx σ ops N vs (listed.setIfInBounds i true) (a.put o.dst u) w' := fun m' ok' u w' g r' hv => by
      refine ⟨by simp [inv.sz], fun j o' hj hl e he hb => ?_, fun j hj => ?_, ⟨m', ok', hdf.step g.others (put_defers _ _ _), by rw [put_size, hsz], fun s => ?_, r'⟩⟩
      · by_cases hji : j = i
        · subst hji
          rw [ho] at hj; cases hj
          exact getD_set_true (hpre e he hb)
        · rw [getD_set_ne false (Ne.symm hji)] at hl
          exact getD_set_true (inv.cl j o' hj hl e he hb)
      · rw [set_hit hils] at hj
        split at hj
        · rename_i e; rw [e]; exact hik
        · exact inv.lo j hj
      · have hset : ∀ j, (listed.setIfInBounds i true).getD j false = if j = i then true else listed.getD j false := set_hit hils
        rw [valX_put hsz hlo.1]
        by_cases hd : o.dst = some s
        · rw [if_pos hd]
          rw [cur_set (ops.toList.take (N)) vs 0 σ.t i o vs[i] hot (List.getElem?_eq_getElem hiv) hd (by rw [Nat.zero_add, hset, if_pos rfl]) fun j o' hij hj hd' => ?_]
          · exact hv
          · rw [Nat.zero_add, hset, if_neg (by omega)]
            have hj' : ops[j]? = some o' := tk hj
            cases hb : listed.getD j false with
            | false => rfl
            | true =>
              have h1 := drawOk_share hok ho hj' hij (Or.inl ⟨s, hd, by simp [names, hd']⟩)
              have := before_listed hok (L := fun k => listed.getD k false = true) inv.cl (j + 1) j (by omega) o' hj' (inv.cl j o' hj' hb) i h1
              rw [hun'] at this; cases this
        · rw [if_neg hd]
          rw [cur_look (q := fun j => listed.getD j false) (ops.toList.take (N)) vs 0 _ σ.t rfl fun j o' hj hd' => by
            rw [Nat.zero_add, hset, if_neg (fun e => by
              subst e
              have := tk hj
              rw [ho] at this; cases this
              exact hd hd')]]
          exact RepV.mono g _ (ht s)
    have hcount := count_set hisz hils hun' hf
    have exec : OpOkS P ⟨σ.n, cur (fun j => decide (j < i)) (ops.toList.take (N)) vs 0 σ.t, σ.h⟩ o vs[i] [] [] σ.h → o.wpIn (FW rr) 0 P a w (wpAnyIn (FW rr) 0 P .any ops Q fuel (listed.setIfInBounds i true)) Q := fun hop => by
      refine wp_of_exec (hop w0 ok0 m ok a.eval w hx r) fun u w' hp => ?_
      obtain ⟨m', ok', g, r', hv, _⟩ := hp
      exact ih _ _ _ hcount (next m' ok' u w' g r' hv)
    unfold wpOpIn
    simp only [ho]
    unfold StepD at hstep
    split at hstep
    · rename_i hg
      rw [if_pos (by simp [Region.wanted, hg])]
      exact exec hstep
    · rename_i j want hg
      have lookY : ∀ x, yieldA ops ⟨σ.n, cur (fun j => decide (j < i)) (ops.toList.take (N)) vs 0 σ.t, σ.h⟩ j = x → x ≠ .junk → ∃ d, (ops[j]?).bind (·.dst) = some d ∧ RepV m ok w x (a.tmps.getD d undef) := fun x hy hx => by
        unfold yieldA at hy
        split at hy
        · rename_i d hd
          have := ht' d (by
            unfold names Oper.looksAt
            simp [hg, hd])
          have hdn : d < σ.n := by
            rw [Option.bind_eq_some_iff] at hd
            obtain ⟨o2, q1, q2⟩ := hd
            have q3 := hds o2 (by simpa using Array.mem_of_getElem? q1)
            simp only [opsLt, Bool.and_eq_true] at q3
            rw [q2] at q3
            simpa [dstLt] using q3.1
          unfold valX at this
          rw [if_pos hdn] at this
          rw [hy] at this
          exact ⟨d, hd, this⟩
        · exact absurd hy.symm hx
      rcases hstep with ⟨b, hy, hcase⟩ | ⟨hy, hv⟩
      · have hyy : yielded ops a.tmps j = some b := by
          obtain ⟨d, hd, this⟩ := lookY _ hy (by simp)
          simp only [RepV] at this
          unfold yielded
          rw [hd]
          simp only [Option.bind_some]
          have hne : a.tmps[d]? = some (.bool b) := by
            rw [Array.getD_eq_getD_getElem?] at this
            cases hq : a.tmps[d]? with
            | none => rw [hq] at this; simp [undef] at this
            | some x => rw [hq] at this; simp at this; rw [this]
          rw [hne]
        rcases hcase with ⟨hb, hop⟩ | ⟨hb, hv⟩
        · rw [if_pos (by simp [Region.wanted, hg, hyy, hb])]
          exact exec hop
        · rw [if_neg (by simp [Region.wanted, hg, hyy, hb])]
          exact ⟨fun _ _ => trivial, ih _ _ _ hcount (next m ok undef w (Grow.refl [] m ok w) r (by rw [hv]; exact undef_rep _ _ _))⟩
      · have hyy : yielded ops a.tmps j = none := by
          obtain ⟨d, hd, vs', hv', _⟩ := lookY _ hy (by simp)
          unfold yielded
          rw [hd]
          simp only [Option.bind_some]
          cases hq : a.tmps[d]? with
          | none => rfl
          | some x =>
            rw [Array.getD_eq_getD_getElem?, hq] at hv'
            simp at hv'
            rw [hv']
        rw [if_neg (by simp [Region.wanted, hg, hyy])]
        exact ⟨fun _ _ => trivial, ih _ _ _ hcount (next m ok undef w (Grow.refl [] m ok w) r (by rw [hv]; exact undef_rep _ _ _))⟩
end

-- part 19
section
open RowKit
variable {Y : YT}

/-! Regions that draw their order and turn memory: why the order does not matter. -/

theorem killV_own0 (A : List Nat) (L st n : Nat) : killV [] A (.own L st n) = if L ∈ A then .junk else .own L st n := by
  unfold killV
  simp [elemsA]
theorem killV_ptr0 (A : List Nat) (L j : Nat) : killV [] A (.ptr L j) = if L ∈ A then .junk else .ptr L j := by
  unfold killV
  simp [ptrD]
theorem killV_junk0 (A : List Nat) : killV [] A .junk = .junk := rfl
mutual
theorem kill_comm (A B : List Nat) : ∀ x : AV, killV [] A (killV [] B x) = killV [] B (killV [] A x)
  | .ptr L j => by by_cases hA : L ∈ A <;> by_cases hB : L ∈ B <;> simp [killV_ptr0, hA, hB, killV_junk0]
  | .rp L i j => by by_cases hA : L ∈ A <;> by_cases hB : L ∈ B <;> simp [killV, hA, hB]
  | .mp L => by by_cases hA : L ∈ A <;> by_cases hB : L ∈ B <;> simp [killV, hA, hB]
  | .own L st n => by by_cases hA : L ∈ A <;> by_cases hB : L ∈ B <;> simp [killV_own0, hA, hB, killV_junk0]
  | .agg xs => by simp only [killV]; rw [killL_comm A B xs]
  | .tup xs => by simp only [killV]; rw [killL_comm A B xs]
  | .fn _ xs => by simp only [killV]; rw [killL_comm A B xs]
  | .mv _ xs => by simp only [killV]; rw [killL_comm A B xs]
  | .junk => rfl
  | .c _ => rfl
  | .nils => rfl
  | .sl _ _ _ => rfl
  | .cut _ _ => rfl
  | .dptr _ => rfl
theorem killL_comm (A B : List Nat) : ∀ xs : List AV, killL [] A (killL [] B xs) = killL [] B (killL [] A xs)
  | [] => rfl
  | x :: xs => by simp only [killL]; rw [kill_comm A B x, killL_comm A B xs]
end
mutual
theorem kill_app (A B : List Nat) : ∀ x : AV, killV [] (A ++ B) x = killV [] A (killV [] B x)
  | .ptr L j => by by_cases hA : L ∈ A <;> by_cases hB : L ∈ B <;> simp [killV_ptr0, hA, hB, killV_junk0]
  | .rp L i j => by by_cases hA : L ∈ A <;> by_cases hB : L ∈ B <;> simp [killV, hA, hB]
  | .mp L => by by_cases hA : L ∈ A <;> by_cases hB : L ∈ B <;> simp [killV, hA, hB]
  | .own L st n => by by_cases hA : L ∈ A <;> by_cases hB : L ∈ B <;> simp [killV_own0, hA, hB, killV_junk0]
  | .agg xs => by simp only [killV]; rw [killL_app A B xs]
  | .tup xs => by simp only [killV]; rw [killL_app A B xs]
  | .fn _ xs => by simp only [killV]; rw [killL_app A B xs]
  | .mv _ xs => by simp only [killV]; rw [killL_app A B xs]
  | .junk => rfl
  | .c _ => rfl
  | .nils => rfl
  | .sl _ _ _ => rfl
  | .cut _ _ => rfl
  | .dptr _ => rfl
theorem killL_app (A B : List Nat) : ∀ xs : List AV, killL [] (A ++ B) xs = killL [] A (killL [] B xs)
  | [] => rfl
  | x :: xs => by simp only [killL]; rw [kill_app A B x, killL_app A B xs]
end
mutual
/-- What names none of them stays. -/
theorem kill_avoid {A : List Nat} : ∀ x : AV, (∀ L ∈ namesV x, L ∉ A) → killV [] A x = x
  | .ptr L j, h => by rw [killV_ptr0, if_neg (h L (by simp [namesV]))]
  | .rp L i j, h => by simp [killV, h L (by simp [namesV])]
  | .mp L, h => by simp [killV, h L (by simp [namesV])]
  | .own L st n, h => by rw [killV_own0, if_neg (h L (by simp [namesV]))]
  | .agg xs, h => by simp only [killV]; rw [killL_avoid xs (by simpa [namesV] using h)]
  | .tup xs, h => by simp only [killV]; rw [killL_avoid xs (by simpa [namesV] using h)]
  | .fn _ xs, h => by simp only [killV]; rw [killL_avoid xs (by simpa [namesV] using h)]
  | .mv _ xs, h => by simp only [killV]; rw [killL_avoid xs (by simpa [namesV] using h)]
  | .junk, _ => rfl
  | .c _, _ => rfl
  | .nils, _ => rfl
  | .sl _ _ _, _ => rfl
  | .cut _ _, _ => rfl
  | .dptr _, _ => rfl
theorem killL_avoid {A : List Nat} : ∀ xs : List AV, (∀ L ∈ namesL xs, L ∉ A) → killL [] A xs = xs
  | [], _ => rfl
  | x :: xs, h => by
    simp only [killL]
    rw [kill_avoid x (fun L hL => h L (by simp [namesL, hL])), killL_avoid xs (fun L hL => h L (by simp [namesL, hL]))]
end
mutual
theorem names_refs {k : Nat} : ∀ x : AV, (∀ L ∈ namesV x, L < k) → refsV k x = true
  | .ptr L j, h => by simpa [refsV] using h L (by simp [namesV])
  | .rp L i j, h => by simpa [refsV] using h L (by simp [namesV])
  | .mp L, h => by simpa [refsV] using h L (by simp [namesV])
  | .own L st n, h => by simpa [refsV] using h L (by simp [namesV])
  | .agg xs, h => by simpa [refsV] using namesL_refs xs (by simpa [namesV] using h)
  | .tup xs, h => by simpa [refsV] using namesL_refs xs (by simpa [namesV] using h)
  | .fn _ xs, h => by simpa [refsV] using namesL_refs xs (by simpa [namesV] using h)
  | .mv _ xs, h => by simpa [refsV] using namesL_refs xs (by simpa [namesV] using h)
  | .junk, _ => rfl
  | .c _, _ => rfl
  | .nils, _ => rfl
  | .sl _ _ _, _ => rfl
  | .cut _ _, _ => rfl
  | .dptr _, _ => rfl
theorem namesL_refs {k : Nat} : ∀ xs : List AV, (∀ L ∈ namesL xs, L < k) → refsL k xs = true
  | [], _ => rfl
  | x :: xs, h => by
    simp only [refsL, Bool.and_eq_true]
    exact ⟨names_refs x (fun L hL => h L (by simp [namesL, hL])), namesL_refs xs (fun L hL => h L (by simp [namesL, hL]))⟩
theorem refs_names {k : Nat} : ∀ x : AV, refsV k x = true → ∀ L ∈ namesV x, L < k
  | .ptr L j, h => by simpa [refsV, namesV] using h
  | .rp L i j, h => by simpa [refsV, namesV] using h
  | .mp L, h => by simpa [refsV, namesV] using h
  | .own L st n, h => by simpa [refsV, namesV] using h
  | .agg xs, h => by simpa [namesV] using refsL_names xs (by simpa [refsV] using h)
  | .tup xs, h => by simpa [namesV] using refsL_names xs (by simpa [refsV] using h)
  | .fn _ xs, h => by simpa [namesV] using refsL_names xs (by simpa [refsV] using h)
  | .mv _ xs, h => by simpa [namesV] using refsL_names xs (by simpa [refsV] using h)
  | .junk, _ => by simp [namesV]
  | .c _, _ => by simp [namesV]
  | .nils, _ => by simp [namesV]
  | .sl _ _ _, _ => by simp [namesV]
  | .cut _ _, _ => by simp [namesV]
  | .dptr _, _ => by simp [namesV]
theorem refsL_names {k : Nat} : ∀ xs : List AV, refsL k xs = true → ∀ L ∈ namesL xs, L < k
  | [], _ => by simp [namesL]
  | x :: xs, h => by
    simp only [refsL, Bool.and_eq_true] at h
    intro L hL
    simp only [namesL, List.mem_append] at hL
    rcases hL with hL | hL
    · exact refs_names x h.1 L hL
    · exact refsL_names xs h.2 L hL
end
section
variable {m m' : List (Option Nat)} {ok : Nat → Prop} {w : World}
theorem grow_kill (ks : List Nat) (m : List (Option Nat)) (ok : Nat → Prop) (w : World) : Grow [] ks m ok w m ok w := ⟨fun _ _ _ h => h, fun _ h => h, fun _ _ _ => rfl, fun _ _ _ _ _ h => h, ⟨(fun L st n v st' es _ _ he => by simp [elemsA] at he), fun L j v y _ _ he => by simp [ptrD] at he⟩, .refl w⟩
theorem RepV.kill0 (ks : List Nat) (x : AV) {v : Value} (h : RepV m ok w x v) : RepV m ok w (killV [] ks x) v := RepV.kill (grow_kill ks m ok w) x h
theorem RepL.kill0 (ks : List Nat) (x : List AV) {v : List Value} (h : RepL m ok w x v) : RepL m ok w (killL [] ks x) v := RepL.kill (grow_kill ks m ok w) x h
theorem OwnB.kill0 (ks : List Nat) {L : Nat} {blk : Blk} (h : OwnB m ok w L blk) : OwnB m ok w L (killB [] ks blk) := by
  cases blk with
  | var t xs =>
    obtain ⟨b, cs, hm, hb, hr, h1⟩ := h
    exact ⟨b, cs, hm, hb, RepL.kill0 ks xs hr, h1⟩
  | row e st es => exact h
  | map k es => exact h
theorem OwnB.up (g : ∀ (L : Nat) b, m[L]? = some b → m'[L]? = some b) {L : Nat} {blk : Blk} (h : OwnB m ok w L blk) : OwnB m' ok w L blk := by
  cases blk with
  | var t xs =>
    obtain ⟨b, cs, hm, hb, hr, h1⟩ := h
    exact ⟨b, cs, g _ _ hm, hb, RepL.mono0 g (fun _ h => h) (fun _ _ _ => rfl) (fun _ _ _ _ h => h) xs hr, h1⟩
  | row e st es =>
    obtain ⟨ob, hm, hr⟩ := h
    exact ⟨ob, g _ _ hm, hr⟩
  | map k es =>
    obtain ⟨b, l, clock, hm, hr⟩ := h
    exact ⟨b, l, clock, g _ _ hm, hr⟩
end
theorem killB_comm (A B : List Nat) (b : Blk) : killB [] A (killB [] B b) = killB [] B (killB [] A b) := by
  cases b with
  | var t cs => simp only [killB]; rw [killL_comm]
  | row e st es => rfl
  | map k es => rfl
theorem killB_app (A B : List Nat) (b : Blk) : killB [] (A ++ B) b = killB [] A (killB [] B b) := by
  cases b with
  | var t cs => simp only [killB]; rw [killL_app]
  | row e st es => rfl
  | map k es => rfl
theorem kill_nil (x : AV) : killV [] [] x = x := kill_avoid x (by simp)
theorem killB_nil (b : Blk) : killB [] [] b = b := by
  cases b with
  | var t cs => simp only [killB]; rw [killL_avoid cs (by simp)]
  | row e st es => rfl
  | map k es => rfl
theorem killB_avoid {A : List Nat} {b : Blk} (h : ∀ L ∈ namesB (some b), L ∉ A) : killB [] A b = b := by
  cases b with
  | var t cs => simp only [killB]; rw [killL_avoid cs (by simpa [namesB] using h)]
  | row e st es => rfl
  | map k es => rfl

def kO (ks : List Nat) (x : Option Blk) : Option Blk := x.map (killB [] ks)
theorem kO_comm (A B : List Nat) (x : Option Blk) : kO A (kO B x) = kO B (kO A x) := by
  cases x with
  | none => rfl
  | some b => simp [kO, killB_comm A B b]

/-! Places that are written, and whose content is killed. -/
section
variable {α : Type} (κ : List Nat → α → α)
def foldK (p : Nat → Bool) : Nat → List (Option α × List Nat) → α → α
  | _, [], x => x
  | k, e :: r, x => foldK p (k + 1) r (if p k = true then (match e.1 with | some y => y | none => κ e.2 x) else x)
inductive Wk : α → α → Prop
  | refl (x : α) : Wk x x
  | step {x y : α} (A : List Nat) : Wk x y → Wk x (κ A y)
variable {κ}
theorem Wk.rep {R : α → Prop} (hR : ∀ A x, R x → R (κ A x)) {x y : α} (h : Wk κ x y) : R x → R y := by
  induction h with
  | refl => exact fun h => h
  | step A _ ih => exact fun h => hR A _ (ih h)
variable (hc : ∀ A B x, κ A (κ B x) = κ B (κ A x))
include hc
theorem Wk.kill {x y : α} (h : Wk κ x y) (A : List Nat) : Wk κ (κ A x) (κ A y) := by
  induction h with
  | refl => exact .refl _
  | step B _ ih => rw [hc]; exact .step B ih
theorem fold_pre (p q : Nat → Bool) : ∀ (ev : List (Option α × List Nat)) (k : Nat) (x y : α), (∀ j, p j = true → q j = true) → (∀ (j : Nat) e, ev[j]? = some e → p (k + j) = false → q (k + j) = true → e.1 = none) → Wk κ x y → Wk κ (foldK κ p k ev x) (foldK κ q k ev y)
  | [], _, _, _, _, _, h => h
  | e :: r, k, x, y, h1, h2, h => by
    rw [foldK, foldK]
    refine fold_pre p q r (k + 1) _ _ h1 (fun j e' he => by
      have := h2 (j + 1) e' (by simpa using he)
      rwa [show k + (j + 1) = k + 1 + j by omega] at this) ?_
    cases hp : p k with
    | true =>
      rw [h1 k hp]
      simp only [if_true]
      cases he : e.1 with
      | none => exact h.kill hc _
      | some v => exact .refl _
    | false =>
      cases hq : q k with
      | true =>
        have := h2 0 e rfl (by simpa using hp) (by simpa using hq)
        simp only [this, if_true]
        exact .step _ h
      | false => simpa using h
omit hc
theorem fold_none (p : Nat → Bool) : ∀ (ev : List (Option α × List Nat)) (k : Nat) (x : α), (∀ (j : Nat) e, ev[j]? = some e → p (k + j) = true → e.1 = none ∧ κ e.2 x = x) → foldK κ p k ev x = x
  | [], _, _, _ => rfl
  | e :: r, k, x, h => by
    rw [foldK]
    have hx : (if p k = true then (match e.1 with | some y => y | none => κ e.2 x) else x) = x := by
      cases hp : p k with
      | false => simp
      | true =>
        obtain ⟨h1, h2⟩ := h 0 e rfl (by simpa using hp)
        simp [h1, h2]
    rw [hx]
    exact fold_none p r (k + 1) x fun j e' he hp => h (j + 1) e' (by simpa using he) (by rwa [show k + (j + 1) = k + 1 + j by omega])
theorem fold_false (p : Nat → Bool) (ev : List (Option α × List Nat)) (k : Nat) (x : α) (h : ∀ j, k ≤ j → p j = false) : foldK κ p k ev x = x :=
  fold_none p ev k x fun j e _ hp => by rw [h _ (by omega)] at hp; cases hp
theorem fold_same (p q : Nat → Bool) : ∀ (ev : List (Option α × List Nat)) (k : Nat) (x : α), (∀ j, j < ev.length → p (k + j) = q (k + j)) → foldK κ p k ev x = foldK κ q k ev x
  | [], _, _, _ => rfl
  | e :: r, k, x, h => by
    rw [foldK, foldK, show p k = q k by simpa using h 0 (by simp)]
    exact fold_same p q r (k + 1) _ fun j hj => by
      have := h (j + 1) (by simpa using hj)
      rwa [show k + (j + 1) = k + 1 + j by omega] at this
theorem fold_later (S : Nat → Bool) (i : Nat) : ∀ (ev : List (Option α × List Nat)) (k : Nat) (x : α), (∀ (j : Nat) e, ev[j]? = some e → i ≤ k + j → S (k + j) = true → e.1 = none ∧ κ e.2 (foldK κ (fun j => decide (j < i)) k ev x) = foldK κ (fun j => decide (j < i)) k ev x) → foldK κ (fun j => decide (j < i) || S j) k ev x = foldK κ (fun j => decide (j < i)) k ev x
  | [], _, _, _ => rfl
  | e :: r, k, x, h => by
    by_cases hk : k < i
    · rw [foldK, foldK]
      simp only [hk, decide_true, Bool.true_or, if_true]
      refine fold_later S i r (k + 1) _ fun j e' he h1 h2 => ?_
      have := h (j + 1) e' (by simpa using he) (by omega) (by rwa [show k + (j + 1) = k + 1 + j by omega])
      rw [foldK] at this
      simp only [hk, decide_true, if_true] at this
      exact this
    · have hX : foldK κ (fun j => decide (j < i)) k (e :: r) x = x := fold_false _ _ _ _ (fun j hj => by simp; omega)
      simp only [hX] at h ⊢
      exact fold_none _ _ _ _ fun j e' he hp => h j e' he (by omega) (by
        have : ¬ k + j < i := by omega
        simpa [this] using hp)
include hc
theorem fold_read {R : α → Prop} (hR : ∀ A x, R x → R (κ A x)) {S : Nat → Bool} {i : Nat} {ev : List (Option α × List Nat)} {x0 : α}
    (h1 : ∀ (j : Nat) e, j < i → ev[j]? = some e → S j = false → e.1 = none)
    (h2 : ∀ (j : Nat) e, i ≤ j → ev[j]? = some e → S j = true → e.1 = none ∧ κ e.2 (foldK κ (fun j => decide (j < i)) 0 ev x0) = foldK κ (fun j => decide (j < i)) 0 ev x0)
    (h : R (foldK κ S 0 ev x0)) : R (foldK κ (fun j => decide (j < i)) 0 ev x0) := by
  rw [← fold_later S i ev 0 x0 fun j e he hi hs => by rw [Nat.zero_add] at hi hs; exact h2 j e hi he hs]
  refine (fold_pre hc S (fun j => decide (j < i) || S j) ev 0 x0 x0 (fun j hj => by simp [hj]) (fun j e he hp hq => ?_) (.refl _)).rep hR h
  rw [Nat.zero_add] at hp hq
  rw [hp] at hq
  exact h1 j e (by simpa using hq) he hp
theorem fold_push (S : Nat → Bool) (A : List Nat) : ∀ (ev : List (Option α × List Nat)) (k : Nat) (x : α), (∀ (j : Nat) e y, ev[j]? = some e → S (k + j) = true → e.1 = some y → κ A y = y) → foldK κ S k ev (κ A x) = κ A (foldK κ S k ev x)
  | [], _, _, _ => rfl
  | e :: r, k, x, h => by
    rw [foldK, foldK]
    have hx : (if S k = true then (match e.1 with | some y => y | none => κ e.2 (κ A x)) else κ A x) = κ A (if S k = true then (match e.1 with | some y => y | none => κ e.2 x) else x) := by
      cases hs : S k with
      | false => simp
      | true =>
        simp only [if_true]
        cases he : e.1 with
        | none => exact hc _ _ _
        | some y => exact (h 0 e y rfl (by simpa using hs) he).symm
    rw [hx]
    exact fold_push S A r (k + 1) _ fun j e' y he hs => h (j + 1) e' y (by simpa using he) (by rwa [show k + (j + 1) = k + 1 + j by omega])
omit hc
theorem fold_at (p : Nat → Bool) {i : Nat} : ∀ (ev : List (Option α × List Nat)) (k : Nat) (x : α) (e : Option α × List Nat), ev[i]? = some e → ∃ z, foldK κ p k ev x = foldK κ p (k + i + 1) (ev.drop (i + 1)) (if p (k + i) = true then (match e.1 with | some y => y | none => κ e.2 z) else z) ∧ ∀ q : Nat → Bool, (∀ j, j < k + i → q j = p j) → foldK κ q k ev x = foldK κ q (k + i + 1) (ev.drop (i + 1)) (if q (k + i) = true then (match e.1 with | some y => y | none => κ e.2 z) else z) := by
  induction i with
  | zero =>
    intro ev k x e he
    cases ev with
    | nil => simp at he
    | cons e' r =>
      simp at he
      subst he
      exact ⟨x, by simp [foldK], fun q _ => by simp [foldK]⟩
  | succ i ih =>
    intro ev k x e he
    cases ev with
    | nil => simp at he
    | cons e' r =>
      obtain ⟨z, h1, h2⟩ := ih r (k + 1) (if p k = true then (match e'.1 with | some y => y | none => κ e'.2 x) else x) e (by simpa using he)
      refine ⟨z, ?_, fun q hq => ?_⟩
      · rw [foldK, h1, List.drop_succ_cons, show k + 1 + i = k + (i + 1) by omega]
      · rw [foldK, hq k (by omega), h2 q (fun j hj => hq j (by omega)), List.drop_succ_cons, show k + 1 + i = k + (i + 1) by omega]
include hc
theorem fold_insert {S : Nat → Bool} {i : Nat} {ev : List (Option α × List Nat)} {x0 : α} {e : Option α × List Nat} (he : ev[i]? = some e) (hn : e.1 = none) (hi : S i = false) (h : ∀ (j : Nat) e' y, i < j → ev[j]? = some e' → S j = true → e'.1 = some y → κ e.2 y = y) : foldK κ (fun j => if j = i then true else S j) 0 ev x0 = κ e.2 (foldK κ S 0 ev x0) := by
  obtain ⟨z, h1, h2⟩ := fold_at (κ := κ) S ev 0 x0 e he
  rw [h1, h2 (fun j => if j = i then true else S j) fun j hj => by rw [if_neg (by omega)]]
  simp only [Nat.zero_add, hi, hn, if_true, Bool.false_eq_true, if_false]
  rw [fold_same (fun j => if j = i then true else S j) S _ _ _ fun j _ => by rw [if_neg (by omega)]]
  refine fold_push hc S e.2 _ _ _ fun j e' y he' hs hy => ?_
  rw [List.getElem?_drop] at he'
  exact h (i + 1 + j) e' y (by omega) he' hs hy
omit hc
theorem fold_write {S : Nat → Bool} {i : Nat} {ev : List (Option α × List Nat)} {x0 : α} {e : Option α × List Nat} {y : α} (he : ev[i]? = some e) (hy : e.1 = some y) (h : ∀ (j : Nat) e', i < j → ev[j]? = some e' → S j = true → e'.1 = none) : ∃ ksl : List (List Nat), foldK κ (fun j => if j = i then true else S j) 0 ev x0 = ksl.foldl (fun x A => κ A x) y := by
  obtain ⟨z, h1, h2⟩ := fold_at (κ := κ) S ev 0 x0 e he
  rw [h2 (fun j => if j = i then true else S j) fun j hj => by rw [if_neg (by omega)]]
  simp only [Nat.zero_add, hy, if_true]
  have : ∀ (l : List (Option α × List Nat)) (k : Nat) (y : α), i < k → (∀ (j : Nat) e', l[j]? = some e' → S (k + j) = true → e'.1 = none) → ∃ ksl : List (List Nat), foldK κ (fun j => if j = i then true else S j) k l y = ksl.foldl (fun x A => κ A x) y := by
    intro l
    induction l with
    | nil => intro k y _ _; exact ⟨[], rfl⟩
    | cons e' r ih =>
      intro k y hk hl
      have e1 : foldK κ (fun j => if j = i then true else S j) k (e' :: r) y = foldK κ (fun j => if j = i then true else S j) (k + 1) r (if S k = true then (match e'.1 with | some y => y | none => κ e'.2 y) else y) := by
        rw [foldK]
        simp only [if_neg (show ¬ k = i by omega)]
      rw [e1]
      obtain ⟨ksl, h3⟩ := ih (k + 1) (if S k = true then (match e'.1 with | some y => y | none => κ e'.2 y) else y) (by omega) fun j e2 he2 hs => hl (j + 1) e2 (by simpa using he2) (by rwa [show k + (j + 1) = k + 1 + j by omega])
      cases hs : S k with
      | false => rw [hs] at h3; exact ⟨ksl, by simpa using h3⟩
      | true =>
        rw [hs] at h3
        have h0 := hl 0 e' rfl (by simpa using hs)
        rw [h0] at h3 ⊢
        exact ⟨e'.2 :: ksl, by simpa using h3⟩
  exact this _ _ _ (by omega) fun j e' he' hs => by
    rw [List.getElem?_drop] at he'
    exact h (i + 1 + j) e' (by omega) he' hs
theorem foldl_rep {R : α → Prop} (hR : ∀ A x, R x → R (κ A x)) : ∀ (ksl : List (List Nat)) (y : α), R y → R (ksl.foldl (fun x A => κ A x) y)
  | [], _, h => h
  | A :: r, y, h => foldl_rep hR r _ (hR A y h)
/-- What holds of the start and of all that is written. -/
theorem fold_all {R : α → Prop} (hR : ∀ A x, R x → R (κ A x)) (S : Nat → Bool) : ∀ (ev : List (Option α × List Nat)) (k : Nat) (x : α), R x → (∀ (j : Nat) e y, ev[j]? = some e → S (k + j) = true → e.1 = some y → R y) → R (foldK κ S k ev x)
  | [], _, _, h, _ => h
  | e :: r, k, x, h, h2 => by
    rw [foldK]
    refine fold_all hR S r (k + 1) _ ?_ fun j e' y he hs => h2 (j + 1) e' y (by simpa using he) (by rwa [show k + (j + 1) = k + 1 + j by omega])
    cases hs : S k with
    | false => simpa using h
    | true =>
      simp only [if_true]
      cases he : e.1 with
      | none => exact hR _ _ h
      | some y => exact h2 0 e y rfl (by simpa using hs) he
end

section
variable {m : List (Option Nat)} {ok : Nat → Prop} {w : World} {k : Nat}
theorem trim_get {L : Nat} {b : Option Nat} (hL : L < k) (h : m[L]? = some b) : (m.take k)[L]? = some b := by
  rw [List.getElem?_take, if_pos hL]; exact h
mutual
theorem RepV.trim : ∀ (x : AV) {v : Value}, refsV k x = true → RepV m ok w x v → RepV (m.take k) ok w x v
  | .junk, _, _, _ => trivial
  | .c _, _, _, h => h
  | .nils, _, _, h => h
  | .sl _ _ _, _, _, h => h
  | .cut _ _, _, _, h => h
  | .dptr _, _, _, h => h
  | .ptr L j, _, hr, ⟨b, hm, hv⟩ => ⟨b, trim_get (by simpa [refsV] using hr) hm, hv⟩
  | .rp L i j, _, hr, ⟨b, hm, hv⟩ => ⟨b, trim_get (by simpa [refsV] using hr) hm, hv⟩
  | .mp L, _, hr, ⟨b, hm, hv⟩ => ⟨b, trim_get (by simpa [refsV] using hr) hm, hv⟩
  | .own L st n, _, hr, ⟨ob, hm, h⟩ => ⟨ob, trim_get (by simpa [refsV] using hr) hm, h⟩
  | .agg xs, _, hr, ⟨vs, hv, h, h1⟩ => ⟨vs, hv, RepL.trim xs (by simpa [refsV] using hr) h, h1⟩
  | .tup xs, _, hr, ⟨vs, hv, h⟩ => ⟨vs, hv, RepL.trim xs (by simpa [refsV] using hr) h⟩
  | .fn _ xs, _, hr, ⟨vs, hv, h⟩ => ⟨vs, hv, RepL.trim xs (by simpa [refsV] using hr) h⟩
  | .mv _ xs, _, hr, ⟨vs, hv, h⟩ => ⟨vs, hv, RepL.trim xs (by simpa [refsV] using hr) h⟩
theorem RepL.trim : ∀ (xs : List AV) {l : List Value}, refsL k xs = true → RepL m ok w xs l → RepL (m.take k) ok w xs l
  | [], _, _, h => h
  | x :: xs, _, hr, ⟨u, us, hl, hx, h⟩ => by
    simp only [refsL, Bool.and_eq_true] at hr
    exact ⟨u, us, hl, RepV.trim x hr.1 hx, RepL.trim xs hr.2 h⟩
end
theorem refsT_slot : ∀ {t : List (Nat × AV)} (i : Nat), refsT k t = true → refsV k (slot t i) = true
  | [], _, _ => rfl
  | (j, x) :: r, i, h => by
    simp only [refsT, Bool.and_eq_true] at h
    unfold slot
    split
    · exact h.1
    · exact refsT_slot i h.2
theorem refsH_get : ∀ {h : Heap} {L : Nat} {t : TypeId} {cs : List AV}, refsH k h = true → h[L]? = some (some (.var t cs)) → refsL k cs = true
  | [], _, _, _, _, h => by simp at h
  | b :: r, 0, t, cs, h, e => by
    simp at e
    subst e
    simp only [refsH, Bool.and_eq_true] at h
    exact h.1
  | b :: r, L + 1, t, cs, h, e => by
    refine refsH_get (h := r) (L := L) ?_ (by simpa using e)
    unfold refsH at h
    split at h
    · rename_i heq; cases heq
    · rename_i heq; cases heq
      simp only [Bool.and_eq_true] at h
      exact h.2
    · rename_i heq; cases heq
      exact h
end
end

-- part 20
section
open RowKit
/-! Calls that hand blocks of their own to the caller. -/
section
variable {m m1 : List (Option Nat)} {ok : Nat → Prop} {w : World}
theorem app_get {L : Nat} {b : Option Nat} (h : m1[L]? = some b) : (m ++ m1)[m.length + L]? = some b := by
  rw [List.getElem?_append_right (by omega), Nat.add_sub_cancel_left]; exact h
mutual
theorem RepV.shift : ∀ (x : AV) {v : Value}, RepV m1 ok w x v → RepV (m ++ m1) ok w (shV m.length x) v
  | .junk, _, _ => trivial
  | .c _, _, h => h
  | .nils, _, h => h
  | .sl _ _ _, _, h => h
  | .cut _ _, _, h => h
  | .dptr _, _, h => h
  | .ptr L j, _, ⟨b, hm, hv⟩ => ⟨b, app_get hm, hv⟩
  | .rp L i j, _, ⟨b, hm, hv⟩ => ⟨b, app_get hm, hv⟩
  | .mp L, _, ⟨b, hm, hv⟩ => ⟨b, app_get hm, hv⟩
  | .own L st n, _, ⟨ob, hm, h⟩ => ⟨ob, app_get hm, h⟩
  | .agg xs, _, ⟨vs, hv, h, h1⟩ => ⟨vs, hv, RepL.shift xs h, h1⟩
  | .tup xs, _, ⟨vs, hv, h⟩ => ⟨vs, hv, RepL.shift xs h⟩
  | .fn _ xs, _, ⟨vs, hv, h⟩ => ⟨vs, hv, RepL.shift xs h⟩
  | .mv _ xs, _, ⟨vs, hv, h⟩ => ⟨vs, hv, RepL.shift xs h⟩
theorem RepL.shift : ∀ (xs : List AV) {l : List Value}, RepL m1 ok w xs l → RepL (m ++ m1) ok w (shL m.length xs) l
  | [], _, h => h
  | x :: xs, _, ⟨u, us, hl, hx, h⟩ => ⟨u, us, hl, RepV.shift x hx, RepL.shift xs h⟩
end
theorem OwnB.shift {L : Nat} {blk : Blk} (h : OwnB m1 ok w L blk) : OwnB (m ++ m1) ok w (m.length + L) (shB m.length blk) := by
  cases blk with
  | var t xs =>
    obtain ⟨b, cs, hm, hb, hr, h1⟩ := h
    exact ⟨b, cs, app_get hm, hb, RepL.shift xs hr, h1⟩
  | row e st es =>
    obtain ⟨ob, hm, hr⟩ := h
    exact ⟨ob, app_get hm, hr⟩
  | map k es =>
    obtain ⟨b, l, clock, hm, hr⟩ := h
    exact ⟨b, l, clock, app_get hm, hr⟩
end

theorem app_cases {m m1 : List (Option Nat)} {L : Nat} {b : Option Nat} (h : (m ++ m1)[L]? = some b) : m[L]? = some b ∨ (m.length ≤ L ∧ m1[L - m.length]? = some b) := by
  rw [List.getElem?_append] at h
  split at h
  · exact Or.inl h
  · exact Or.inr ⟨by omega, h⟩

theorem HRel.join {w0 : World} {ok0 : Nat → Prop} {m m1 : List (Option Nat)} {ok ok1 : Nat → Prop} {h hr : Heap} {w w' : World} (r : HRel w0 ok0 m ok h w) (hmo : ∀ b, ok b → ok1 b) (r1 : HRel w ok m1 ok1 hr w') :
    Grow [] [] m ok w (m ++ m1) ok1 w' ∧ HRel w0 ok0 (m ++ m1) ok1 (h ++ shH h.length hr) w' ∧ ∀ T, Fr T m ok w (m ++ m1) ok1 w' := by
  have hz : w0.heap.size ≤ w.heap.size := r.bel.size
  have g : Grow [] [] m ok w (m ++ m1) ok1 w' := ⟨fun L b _ hm => by rw [List.getElem?_append_left (List.getElem?_eq_some_iff.1 hm).1]; exact hm, hmo, fun b o hb => cell_same (r1.bel.block b (r.okb b hb)), fun L b s _ hm hs => by
    unfold World.shape? at *
    rw [r1.bel.block b (r.new L b hm).2]
    exact hs, ⟨(fun _ _ _ _ _ _ h => by cases h), fun _ _ _ _ h => by cases h⟩, below_others r1.bel⟩
  have hget : ∀ {L : Nat} {blk : Blk}, (h ++ shH h.length hr)[L]? = some (some blk) → h[L]? = some (some blk) ∨ (h.length ≤ L ∧ ∃ b0, hr[L - h.length]? = some (some b0) ∧ blk = shB h.length b0) := fun {L blk} hL => by
    rw [List.getElem?_append] at hL
    split at hL
    · exact Or.inl hL
    · refine Or.inr ⟨by omega, ?_⟩
      unfold shH at hL
      rw [List.getElem?_map, Option.map_eq_some_iff] at hL
      obtain ⟨o, h1, h2⟩ := hL
      rw [Option.map_eq_some_iff] at h2
      obtain ⟨b0, rfl, rfl⟩ := h2
      exact ⟨b0, h1, rfl⟩
  refine ⟨g, ⟨by simp [r.len, r1.len, shH], fun L blk hL => ?_, fun L L' b h1 h2 => ?_, fun L b blk hL hm hk => ?_, fun L b hm => ?_, r1.okb, fun b hk => ?_, r.bel.trans (r1.bel.mono hz), r1.tab⟩, fun T => ⟨fun b hb _ => r1.bel.block b hb, fun L b _ hm => by rw [List.getElem?_append_left (List.getElem?_eq_some_iff.1 hm).1]; exact hm, fun L b hm => ?_, fun b hk => (r1.oko b hk).imp id Or.inl⟩⟩
  · rcases hget hL with h1 | ⟨h1, b0, h2, rfl⟩
    · exact OwnB.mono g (fun b hb => r1.bel.block b (r.new L b hb).2) (r.own L blk h1)
    · have := OwnB.shift (m := m) (r1.own _ _ h2)
      rw [show m.length + (L - h.length) = L by rw [r.len]; omega, r.len] at this
      exact this
  · rcases app_cases h1 with h1 | ⟨k1, h1⟩ <;> rcases app_cases h2 with h2 | ⟨k2, h2⟩
    · exact r.inj L L' b h1 h2
    · have := (r.new L b h1).2; have := (r1.new _ b h2).1; omega
    · have := (r.new L' b h2).2; have := (r1.new _ b h1).1; omega
    · have := r1.inj _ _ b h1 h2; omega
  · rcases app_cases hm with hm | ⟨k1, hm⟩
    · have hlt := r.mlt hm
      rw [List.getElem?_append_left hlt] at hL
      rcases r1.oko b hk with h1 | h1
      · exact r.nok L b blk hL hm h1
      · have := (r.new L b hm).2; omega
    · rcases hget hL with h1 | ⟨h1, b0, h2, rfl⟩
      · have := (List.getElem?_eq_some_iff.1 h1).1; have := r.len; omega
      · rw [← r.len] at h2
        exact r1.nok _ b b0 h2 hm hk
  · rcases app_cases hm with hm | ⟨k1, hm⟩
    · exact ⟨(r.new L b hm).1, Nat.lt_of_lt_of_le (r.new L b hm).2 r1.bel.size⟩
    · have := r1.new _ b hm; exact ⟨by omega, this.2⟩
  · rcases r1.oko b hk with h1 | h1
    · exact r.oko b h1
    · exact Or.inr (by omega)
  · rcases app_cases hm with hm | ⟨k1, hm⟩
    · exact Or.inl hm
    · exact Or.inr (r1.new _ b hm).1

section
variable {m : List (Option Nat)} {ok ok' : Nat → Prop} {w : World}
mutual
theorem noD_ok : ∀ (x : AV) {v : Value}, noD x = true → RepV m ok w x v → RepV m ok' w x v
  | .junk, _, _, _ => trivial
  | .c _, _, _, h => h
  | .nils, _, _, h => h
  | .sl _ _ _, _, h, _ => by simp [noD] at h
  | .cut _ _, _, h, _ => by simp [noD] at h
  | .dptr _, _, h, _ => by simp [noD] at h
  | .ptr _ _, _, _, h => h
  | .rp _ _ _, _, _, h => h
  | .mp _, _, _, h => h
  | .own _ _ _, _, _, h => h
  | .agg xs, _, h, ⟨vs, hv, hl, h1⟩ => ⟨vs, hv, noDL_ok xs (by simpa [noD] using h) hl, h1⟩
  | .tup xs, _, h, ⟨vs, hv, hl⟩ => ⟨vs, hv, noDL_ok xs (by simpa [noD] using h) hl⟩
  | .fn _ xs, _, h, ⟨vs, hv, hl⟩ => ⟨vs, hv, noDL_ok xs (by simpa [noD] using h) hl⟩
  | .mv _ xs, _, h, ⟨vs, hv, hl⟩ => ⟨vs, hv, noDL_ok xs (by simpa [noD] using h) hl⟩
theorem noDL_ok : ∀ (xs : List AV) {l : List Value}, noDL xs = true → RepL m ok w xs l → RepL m ok' w xs l
  | [], _, _, h => h
  | x :: xs, _, h, ⟨u, us, hl, hx, hr⟩ => by
    simp only [noDL, Bool.and_eq_true] at h
    exact ⟨u, us, hl, noD_ok x h.1 hx, noDL_ok xs h.2 hr⟩
end
theorem MapEs.flat {k : KT} : ∀ {l : List MapEntry} {es : List (MK × AV)}, (∀ e ∈ es, flat e.2 = true) → MapEs ok w k l es → MapEs ok' w k l es
  | [], _, _, h => h
  | _ :: _, _, hf, ⟨p, r, he, hk, ho, hd, hr⟩ => ⟨p, r, he, hk, ho, flat_ok p.2 (hf p (by simp [he])) hd, MapEs.flat (fun e h => hf e (by simp [he, h])) hr⟩
theorem closedB_ok {L : Nat} {blk : Blk} (h : closedB blk) (ho : OwnB m ok w L blk) : OwnB m ok' w L blk := by
  cases blk with
  | var t xs =>
    obtain ⟨b, cs, hm, hb, hr, h1⟩ := ho
    exact ⟨b, cs, hm, hb, noDL_ok xs h hr, h1⟩
  | row e st es =>
    obtain ⟨ob, hm, hr⟩ := ho
    refine ⟨ob, hm, ?_⟩
    cases ob with
    | none => exact hr
    | some b =>
      obtain ⟨cs, hb, hl, hr⟩ := hr
      refine ⟨cs, hb, hl, fun i x hx => ⟨(hr i x hx).1, fun j y hy => ?_⟩⟩
      obtain ⟨u, hu, h1, hd⟩ := (hr i x hx).2 j y hy
      have hf : ∀ (l : List AV), flatL l = true → y ∈ l → flat y = true := fun l => by
        induction l with
        | nil => intro _ h; cases h
        | cons z l ih =>
          intro hz hm
          simp only [flatL, Bool.and_eq_true] at hz
          rcases List.mem_cons.1 hm with rfl | hm
          · exact hz.1
          · exact ih hz.2 hm
      exact ⟨u, hu, h1, flat_ok y (hf x (h x (List.mem_of_getElem? hx)) (List.mem_of_getElem? hy)) hd⟩
  | map k es =>
    obtain ⟨b, l, clock, hm, hb, hst, hr⟩ := ho
    exact ⟨b, l, clock, hm, hb, hst, hr.flat h⟩
end
/-- What a call hands over, as the caller knows it. -/
theorem handed {P : Program} {g : FuncId} {ds : List AV} {res : AV} {hr : Heap} (hm : MeetsO P g ds res hr) {m : List (Option Nat)} {ok : Nat → Prop} {w : World} {K : List Nat} (hc : K.isEmpty = true ∨ Closed res hr) {vs : List Value} (hd : RepDL (okx m ok K) w ds vs) (hb : Okb ok w) (hmb : ∀ (L b : Nat), m[L]? = some (some b) → b < w.heap.size) :
    Calls P g vs.toArray w fun e w' => ∃ v m1 ok1, e = .returned v ∧ (∀ b, ok b → ok1 b) ∧ HRel w ok m1 ok1 hr w' ∧ RepV m1 ok1 w' res v := by
  rcases hc with hc | hc
  · obtain rfl : K = [] := by simpa using hc
    refine hm.2 ok w _ hb (RepDL.mono (ok' := ok) (w' := w) (fun b hb => ?_) (fun _ _ _ => rfl) _ hd)
    rcases hb with hb | ⟨L, hL, _⟩
    · exact hb
    · cases hL
  · refine (hm.2 (okx m ok K) w _ ⟨fun b h => ?_, hb.2.mono (fun b h => Or.inl h) fun _ _ _ => rfl⟩ hd).mono fun e w' hp => ?_
    · rcases h with h | ⟨L, _, h⟩
      · exact hb.1 b h
      · exact hmb L b h
    · obtain ⟨v, m1, ok1, he, hmo, r1, hv⟩ := hp
      refine ⟨v, m1, ok, he, fun _ h => h, ⟨r1.len, fun L blk hL => closedB_ok (hc.2 _ (List.mem_of_getElem? hL) _ rfl) (r1.own L blk hL), r1.inj, fun L b blk hL hm hk => ?_, r1.new, fun b hk => Nat.lt_of_lt_of_le (hb.1 b hk) r1.bel.size, fun b hk => Or.inl hk, r1.bel, hb.2.mono (fun _ h => h) fun b o h => cell_same (r1.bel.block b (hb.1 b h))⟩, noD_ok res hc.1 hv⟩
      have := (r1.new L b hm).1
      have := hb.1 b hk
      omega

theorem step_callO {P : Program} {σ : AS} {dst : Option Tmp} {type : TypeId} {f : Operand} {args : Array Operand} {ats : Array TypeId} {pos : String} {after : Array Edge} {guard : Option (Nat × Bool)} {g : FuncId} {cap : List AV} (hf : aev σ f = .fn g cap) {ds : List AV} (hds : toDL σ.h (args.toList.map (aev σ) ++ cap) = some ds) {res : AV} {hr : Heap} (hm : MeetsO P g ds res hr) (hown : (ownsL (args.toList.map (aev σ) ++ cap)).isEmpty = true ∨ Closed res hr) :
    OpOkS P σ ⟨dst, .call ⟨.value f, args, ats⟩, type, pos, after, guard⟩ (shV σ.h.length res) [] [] (σ.h ++ shH σ.h.length hr) := by
  intro w0 ok0 m ok ρ w hx r
  have q1 := hx f (by simp [Op.operands, Call.operands])
  rw [hf] at q1
  obtain ⟨vc, hv, hcap⟩ := q1
  have hargs : RepL m ok w (args.toList.map (aev σ)) (args.map ρ).toList := by
    refine RepL.of (by simp) fun i a b h1 h2 => ?_
    simp only [List.getElem?_map, Array.toList_map, Option.map_eq_some_iff] at h1 h2
    obtain ⟨q, h1, rfl⟩ := h1
    obtain ⟨q', h2, rfl⟩ := h2
    rw [h1] at h2; cases h2
    exact hx q (by simp [Op.operands, Call.operands]; exact Or.inr (by simpa using List.mem_of_getElem? h1))
  have hall := hargs.append hcap
  have hd := toDL_ok r.own _ hds hall
  have hcall := handed hm hown hd ⟨r.okb, r.tab⟩ fun L b h => (r.new L b h).2
  have hrun : (execOp ρ ⟨dst, .call ⟨.value f, args, ats⟩, type, pos, after, guard⟩).run P w = .ok (.enter g ((args.map ρ).toList ++ vc.toList).toArray) w := by
    have e1 : ((args.map ρ).toList ++ vc.toList).toArray = args.map ρ ++ vc := by
      apply Array.ext'
      simp
    rw [e1]
    simp only [execOp, resolve, hv, Deferred.ofValue, Sem.run_bind, Sem.run_pure, Result.andThen_ok, invoke, Array.empty_append]
    exact hm.1 _ w
  unfold ExecOk
  rw [hrun]
  refine hcall.mono fun e w' hp => ?_
  obtain ⟨v, m1, ok1, he, hmo, r1, hres⟩ := hp
  obtain ⟨g', r', f'⟩ := r.join hmo r1
  refine ⟨v, he, _, _, g', r', ?_, fun _ => f' _⟩
  rw [← r.len]
  exact RepV.shift res hres

theorem OpOkS.weak {P : Program} {σ : AS} {o : Oper} {v : AV} {hk : Heap} {ks : List Nat} {h' : Heap} (h : OpOkS P σ o v hk ks h') : OpOkS P σ o v [] ks h' := fun w0 ok0 m ok ρ w hx r =>
  ExecOk.mono (h w0 ok0 m ok ρ w hx r) fun u w' ⟨m', ok', g, r', hv, f⟩ => ⟨m', ok', ⟨g.mm, g.mo, g.cells, g.shape, ⟨(fun L st n v st' es _ _ he => by simp [elemsA] at he), fun L j v y _ _ he => by simp [ptrD] at he⟩, g.others⟩, r', hv, f⟩

theorem wOp_ok {P : Program} {σ : AS} {o : Oper} {K : AV → List Nat → Heap → Prop} (h : wOp P σ o K) : ∃ v ks h', K v ks h' ∧ OpOkS P σ o v [] ks h' := by
  unfold wOp at h
  split at h
  · obtain ⟨v, hK, hv⟩ := apure_ok (show apure P σ o _ from h)
    exact ⟨v, [], σ.h, hK, hv.full'⟩
  · split at h
    · obtain ⟨dst, op, type, pos, after, guard⟩ := o
      unfold callXW at h
      split at h
      · rename_i f args ats heq
        simp only at heq
        subst heq
        unfold callXV at h
        split at h
        · rename_i g cap hf
          obtain ⟨ds, hds, ⟨res, hm, hc, hK⟩ | ⟨res, hr, hm, hown, hK⟩ | ⟨res, hm, hc, hK⟩⟩ := h
          · exact ⟨_, _, _, hK, step_call hf hds hm _ _ _ (by rw [if_pos hc]; exact ⟨rfl, rfl, rfl⟩)⟩
          · exact ⟨_, _, _, hK, step_callO hf hds hm hown⟩
          · exact ⟨_, _, _, hK, (step_call hf hds hm _ _ _ (by rw [if_neg (by simp [hc])]; exact ⟨rfl, rfl, rfl⟩)).weak⟩
        · exact h.elim
      · exact h.elim
    · obtain ⟨v, hk, ks, h', hK, hop⟩ := astep_ok (show astep P σ o _ from h)
      exact ⟨_, _, _, hK, hop.weak⟩

/-! The walk of such a region, as a list. -/
structure SE where
  σ : AS
  v : AV
  ks : List Nat
  hm : Heap
  run : Bool
abbrev OE := Oper × SE
def tchE (p : OE) : List Nat := if p.2.run = true then touchO p.2.σ p.1.op ++ p.2.ks else []
def newE (p : OE) : List Nat := if p.2.run = true then newL p.2.σ.h.length p.2.hm.length else []
def setsE (p : OE) (L : Nat) : Bool := decide (L ∈ tchE p) || decide (L ∈ newE p)
def evS (s : Nat) (p : OE) : Option AV × List Nat := (if p.1.dst = some s then some p.2.v else none, p.2.ks)
def evH (L : Nat) (p : OE) : Option (Option Blk) × List Nat := (if setsE p L = true then some ((p.2.hm[L]?).join) else none, p.2.ks)
def nxtE (p : OE) : AS := if p.2.run = true then nextW p.2.σ p.1 p.2.v p.2.ks p.2.hm else p.2.σ.put p.1.dst (.tup [])
def entE (p : OE) : Ent := if p.2.run = true then entW p.2.σ p.1.op p.2.v p.2.ks p.2.hm else ⟨[], [], [], [], [], []⟩
def guardE (ops : Array Oper) (σ : AS) (o : Oper) (run : Bool) : Prop :=
  match o.guard with
  | none => run = true
  | some (j, want) => (∃ b, yieldA ops σ j = .c (.bool b) ∧ run = (b == want)) ∨ (yieldA ops σ j = .tup [] ∧ run = false)
structure RunE (P : Program) (p : OE) : Prop where
  lt : allLt p.2.σ.h.length (namesL (opVals p.2.σ p.1.op)) = true
  mlt : allLt p.2.σ.h.length (namesH (maskH (readO p.2.σ p.1.op) p.2.σ.h)) = true
  op : OpOkS P ⟨p.2.σ.n, p.2.σ.t, maskH (readO p.2.σ p.1.op) p.2.σ.h⟩ p.1 p.2.v [] p.2.ks p.2.hm
  kt : allLt p.2.σ.h.length p.2.ks = true
  len : p.2.σ.h.length ≤ p.2.hm.length
  vlt : allLt p.2.hm.length (namesV p.2.v ++ namesH (setH (touchO p.2.σ p.1.op ++ p.2.ks) p.2.σ.h.length p.2.hm)) = true
structure StepE (P : Program) (ops : Array Oper) (p : OE) : Prop where
  guard : guardE ops p.2.σ p.1 p.2.run
  yes : p.2.run = true → RunE P p
  no : p.2.run = false → p.2.v = .tup [] ∧ p.2.ks = []
def TrW (P : Program) (ops : Array Oper) : AS → List OE → AS → Prop
  | σ, [], σ' => σ = σ'
  | σ, p :: l, σ' => p.2.σ = σ ∧ StepE P ops p ∧ TrW P ops (nxtE p) l σ'

theorem confs_mem {i : Nat} {b : Ent} : ∀ (es : List Ent) (j0 a : Nat) (x : Ent), es[a]? = some x → conf x b = true → (j0 + a, i) ∈ confs i b j0 es
  | [], _, _, _, h, _ => by simp at h
  | e :: r, j0, 0, x, h, hc => by
    simp at h
    subst h
    simp [confs, hc]
  | e :: r, j0, a + 1, x, h, hc => by
    have := confs_mem (i := i) r (j0 + 1) a x (by simpa using h) hc
    rw [show j0 + 1 + a = j0 + (a + 1) by omega] at this
    unfold confs
    split
    · exact List.mem_cons_of_mem _ this
    · exact this

theorem traceW {P : Program} {ops : Array Oper} {K : AS → Prop} : ∀ (l : List Oper) (es : List Ent) (prs : List (Nat × Nat)) (σ : AS), awpW P ops K l es prs σ → ∃ (ses : List SE) (σ' : AS) (prs' : List (Nat × Nat)), ses.length = l.length ∧ TrW P ops σ (l.zip ses) σ' ∧ K σ' ∧ ordOk ops prs' = true ∧ (∀ p ∈ prs, p ∈ prs') ∧ ∀ (a b : Nat) x y, a < b → es.length ≤ b → (es ++ (l.zip ses).map entE)[a]? = some x → (es ++ (l.zip ses).map entE)[b]? = some y → conf x y = true → (a, b) ∈ prs'
  | [], es, prs, σ, h => ⟨[], σ, prs, rfl, rfl, h.2, h.1, fun _ h => h, fun a b x y _ hb _ hy _ => by
      rw [List.getElem?_eq_none (by simp; omega)] at hy; cases hy⟩
  | o :: l, es, prs, σ, h => by
    have run : wRun P σ o (contW σ o es prs (awpW P ops K l)) → guardE ops σ o true → ∃ (ses : List SE) (σ' : AS) (prs' : List (Nat × Nat)), ses.length = (o :: l).length ∧ TrW P ops σ ((o :: l).zip ses) σ' ∧ K σ' ∧ ordOk ops prs' = true ∧ (∀ p ∈ prs, p ∈ prs') ∧ ∀ (a b : Nat) x y, a < b → es.length ≤ b → (es ++ ((o :: l).zip ses).map entE)[a]? = some x → (es ++ ((o :: l).zip ses).map entE)[b]? = some y → conf x y = true → (a, b) ∈ prs' := fun h hg => by
      obtain ⟨h1, h2, h3⟩ := h
      obtain ⟨v, ks, h', ⟨k1, k2, k3, hK⟩, hop⟩ := wOp_ok h3
      obtain ⟨ses, σ', prs', e1, e2, e3, e4, e5, e6⟩ := traceW l _ _ _ hK
      refine ⟨⟨σ, v, ks, h', true⟩ :: ses, σ', prs', by simp [e1], ⟨rfl, ⟨hg, fun _ => ⟨h1, h2, hop, k1, k2, k3⟩, fun h => (by cases h)⟩, e2⟩, e3, e4, fun p hp => e5 p (by simp [hp]), fun a b x y hab hb hx hy hc => ?_⟩
      have hent : es ++ ((o :: l).zip (⟨σ, v, ks, h', true⟩ :: ses)).map entE = (es ++ [entW σ o.op v ks h']) ++ (l.zip ses).map entE := by simp [entE]
      rw [hent] at hx hy
      rcases Nat.eq_or_lt_of_le hb with hb | hb
      · subst hb
        rw [List.getElem?_append_left (by simp; omega), List.getElem?_append_left hab] at hx
        rw [List.getElem?_append_left (by simp), List.getElem?_append_right (Nat.le_refl _)] at hy
        simp at hy
        subst hy
        refine e5 _ (List.mem_append_right _ ?_)
        have := confs_mem (i := es.length) es 0 a x hx hc
        rwa [Nat.zero_add] at this
      · exact e6 a b x y hab (by simp; omega) hx hy hc
    have skip : awpW P ops K l (es ++ [⟨[], [], [], [], [], []⟩]) prs (σ.put o.dst (.tup [])) → guardE ops σ o false → ∃ (ses : List SE) (σ' : AS) (prs' : List (Nat × Nat)), ses.length = (o :: l).length ∧ TrW P ops σ ((o :: l).zip ses) σ' ∧ K σ' ∧ ordOk ops prs' = true ∧ (∀ p ∈ prs, p ∈ prs') ∧ ∀ (a b : Nat) x y, a < b → es.length ≤ b → (es ++ ((o :: l).zip ses).map entE)[a]? = some x → (es ++ ((o :: l).zip ses).map entE)[b]? = some y → conf x y = true → (a, b) ∈ prs' := fun h hg => by
      obtain ⟨ses, σ', prs', e1, e2, e3, e4, e5, e6⟩ := traceW l _ _ _ h
      refine ⟨⟨σ, .tup [], [], σ.h, false⟩ :: ses, σ', prs', by simp [e1], ⟨rfl, ⟨hg, fun h => (by cases h), fun _ => ⟨rfl, rfl⟩⟩, e2⟩, e3, e4, e5, fun a b x y hab hb hx hy hc => ?_⟩
      have hent : es ++ ((o :: l).zip (⟨σ, .tup [], [], σ.h, false⟩ :: ses)).map entE = (es ++ [⟨[], [], [], [], [], []⟩]) ++ (l.zip ses).map entE := by simp [entE]
      rw [hent] at hx hy
      rcases Nat.eq_or_lt_of_le hb with hb | hb
      · subst hb
        rw [List.getElem?_append_left (by simp), List.getElem?_append_right (Nat.le_refl _)] at hy
        simp at hy
        subst hy
        simp [conf, meet] at hc
      · exact e6 a b x y hab (by simp; omega) hx hy hc
    unfold awpW at h
    split at h
    · rename_i hg
      exact run h (by unfold guardE; rw [hg])
    · rename_i j want hg
      unfold guardW at h
      split at h
      · rename_i b hy
        by_cases hb : b = want
        · exact run (h.1 hb) (by unfold guardE; rw [hg]; exact Or.inl ⟨b, hy, by simp [hb]⟩)
        · exact skip (h.2 (by cases b <;> cases want <;> simp_all)) (by unfold guardE; rw [hg]; exact Or.inl ⟨b, hy, by simp [hb]⟩)
      · rename_i hy
        exact skip h (by unfold guardE; rw [hg]; exact Or.inr ⟨hy, rfl⟩)
      · exact h.elim

theorem slot_killT (ks : List Nat) : ∀ (t : List (Nat × AV)) (s : Nat), slot (killT [] ks t) s = killV [] ks (slot t s) := by
  cases ks with
  | nil => intro t s; rw [kill_nil]; rfl
  | cons k r =>
    intro t
    induction t with
    | nil => intro s; rfl
    | cons p t ih =>
      intro s
      obtain ⟨j, x⟩ := p
      simp only [killT, List.map_cons, slot]
      split
      · rfl
      · exact ih s
theorem slot_next {P : Program} {ops : Array Oper} {p : OE} (h : StepE P ops p) (s : Nat) : slot (nxtE p).t s = match (evS s p).1 with | some y => y | none => killV [] p.2.ks (slot p.2.σ.t s) := by
  unfold nxtE evS
  cases hr : p.2.run with
  | true =>
    rw [if_pos rfl]
    unfold nextW
    cases hd : p.1.dst with
    | none => simp [slot_killT]
    | some d =>
      simp only [slot, slot_killT]
      by_cases e : d = s <;> simp [e]
  | false =>
    obtain ⟨h1, h2⟩ := h.no hr
    rw [if_neg (by simp), h1, h2]
    cases hd : p.1.dst with
    | none => simp [AS.put, kill_nil]
    | some d =>
      simp only [AS.put, slot]
      by_cases e : d = s <;> simp [e, kill_nil]
theorem merge_len (T ks : List Nat) (h h' : Heap) : (mergeH T ks h h').length = h'.length := by simp [mergeH]
theorem mem_newL {lo hi L : Nat} : L ∈ newL lo hi ↔ lo ≤ L ∧ L < hi := by
  unfold newL
  rw [List.mem_iff_getElem?]
  constructor
  · rintro ⟨i, h⟩
    rw [List.getElem?_drop] at h
    obtain ⟨h1, h2⟩ := List.getElem?_eq_some_iff.1 h
    simp at h1 h2
    omega
  · rintro ⟨h1, h2⟩
    exact ⟨L - lo, by rw [List.getElem?_drop, show lo + (L - lo) = L by omega, List.getElem?_range h2]⟩
theorem merge_get {T ks : List Nat} {h h' : Heap} (hl : h.length ≤ h'.length) (L : Nat) : ((mergeH T ks h h')[L]?).join = if (decide (L ∈ T) || decide (L ∈ newL h.length h'.length)) = true then (h'[L]?).join else kO ks ((h[L]?).join) := by
  unfold mergeH
  rw [List.getElem?_map, List.getElem?_zipIdx, Option.map_map]
  simp only [Bool.or_eq_true, decide_eq_true_eq, mem_newL]
  cases hL : h'[L]? with
  | none =>
    have h1 : h'.length ≤ L := by simpa using hL
    have h2 : h[L]? = none := List.getElem?_eq_none (by omega)
    simp only [Option.map_none, h2]
    split <;> rfl
  | some x =>
    have h1 := (List.getElem?_eq_some_iff.1 hL).1
    simp only [Option.map_some, Function.comp, Nat.zero_add, Option.join_some]
    by_cases c1 : L ∈ T
    · simp [c1]
    · by_cases c2 : h.length ≤ L
      · simp [c2, h1]
      · simp only [c1, c2, or_self, if_false, false_and]
        have h3 : h[L]? = some h[L] := List.getElem?_eq_getElem (by omega)
        rw [h3]
        cases hb : h[L] with
        | none => rfl
        | some b => rfl
theorem heap_next {P : Program} {ops : Array Oper} {p : OE} (h : StepE P ops p) (L : Nat) : ((nxtE p).h[L]?).join = match (evH L p).1 with | some y => y | none => kO p.2.ks ((p.2.σ.h[L]?).join) := by
  unfold nxtE evH setsE tchE newE
  cases hr : p.2.run with
  | true =>
    have r := h.yes hr
    have e : (nextW p.2.σ p.1 p.2.v p.2.ks p.2.hm).h = mergeH (touchO p.2.σ p.1.op ++ p.2.ks) p.2.ks p.2.σ.h p.2.hm := by unfold nextW; cases p.1.dst <;> rfl
    simp only [if_true, e, merge_get r.len]
    split <;> rfl
  | false =>
    obtain ⟨h1, h2⟩ := h.no hr
    have e : (p.2.σ.put p.1.dst (.tup [])).h = p.2.σ.h := by cases p.1.dst <;> rfl
    simp only [Bool.false_eq_true, if_false, e, h2]
    simp only [List.not_mem_nil, decide_false, Bool.or_self, Bool.false_eq_true, if_false]
    cases (p.2.σ.h[L]?).join with
    | none => rfl
    | some b => simp [kO, killB_nil]
theorem next_len {P : Program} {ops : Array Oper} {p : OE} (h : StepE P ops p) : (nxtE p).h.length = if p.2.run = true then p.2.hm.length else p.2.σ.h.length := by
  unfold nxtE
  split
  · unfold nextW
    cases p.1.dst <;> exact merge_len _ _ _ _
  · cases p.1.dst <;> rfl
theorem next_le {P : Program} {ops : Array Oper} {p : OE} (h : StepE P ops p) : p.2.σ.h.length ≤ (nxtE p).h.length := by
  rw [next_len h]
  split
  · exact (h.yes (by assumption)).len
  · exact Nat.le_refl _
theorem next_n {p : OE} : (nxtE p).n = p.2.σ.n := by
  unfold nxtE nextW
  split <;> cases p.1.dst <;> rfl
theorem TrW.le {P : Program} {ops : Array Oper} : ∀ {z : List OE} {σ σE : AS}, TrW P ops σ z σE → σ.h.length ≤ σE.h.length ∧ σE.n = σ.n
  | [], σ, σE, h => by cases h; exact ⟨Nat.le_refl _, rfl⟩
  | p :: l, σ, σE, ⟨h1, h2, h3⟩ => by
    subst h1
    have := TrW.le h3
    have := next_le h2
    exact ⟨by omega, by rw [(TrW.le h3).2, next_n]⟩
theorem TrW.get {P : Program} {ops : Array Oper} : ∀ {z : List OE} {σ σE : AS} (k i : Nat) {p : OE}, TrW P ops σ z σE → z[i]? = some p → StepE P ops p ∧ p.2.σ.n = σ.n ∧ (∀ s, slot p.2.σ.t s = foldK (killV []) (fun j => decide (j < k + i)) k (z.map (evS s)) (slot σ.t s)) ∧ (∀ L, (p.2.σ.h[L]?).join = foldK kO (fun j => decide (j < k + i)) k (z.map (evH L)) ((σ.h[L]?).join)) ∧ σ.h.length ≤ p.2.σ.h.length ∧ (nxtE p).h.length ≤ σE.h.length
  | [], _, _, _, _, _, _, h => by simp at h
  | p :: l, σ, σE, k, 0, q, ⟨h1, h2, h3⟩, h => by
    simp at h
    subst h h1
    refine ⟨h2, rfl, fun s => ?_, fun L => ?_, Nat.le_refl _, (TrW.le h3).1⟩
    · rw [fold_false _ _ _ _ fun j hj => by simp; omega]
    · rw [fold_false _ _ _ _ fun j hj => by simp; omega]
  | p :: l, σ, σE, k, i + 1, q, ⟨h1, h2, h3⟩, h => by
    subst h1
    obtain ⟨a1, a2, a3, a4, a5, a6⟩ := TrW.get (k + 1) i h3 (by simpa using h)
    refine ⟨a1, by rw [a2, next_n], fun s => ?_, fun L => ?_, Nat.le_trans (next_le h2) a5, a6⟩
    · rw [a3 s, slot_next h2, List.map_cons, foldK]
      simp only [show k < k + (i + 1) by omega, decide_true, if_true]
      rw [show k + 1 + i = k + (i + 1) by omega]
      cases h0 : (evS s p).1 <;> rfl
    · rw [a4 L, heap_next h2, List.map_cons, foldK]
      simp only [show k < k + (i + 1) by omega, decide_true, if_true]
      rw [show k + 1 + i = k + (i + 1) by omega]
      cases h0 : (evH L p).1 <;> rfl
theorem TrW.last {P : Program} {ops : Array Oper} : ∀ {z : List OE} {σ σE : AS} (k : Nat), TrW P ops σ z σE → (∀ s, slot σE.t s = foldK (killV []) (fun j => true) k (z.map (evS s)) (slot σ.t s)) ∧ (∀ L, (σE.h[L]?).join = foldK kO (fun j => true) k (z.map (evH L)) ((σ.h[L]?).join))
  | [], σ, σE, k, h => by cases h; exact ⟨fun _ => rfl, fun _ => rfl⟩
  | p :: l, σ, σE, k, ⟨h1, h2, h3⟩ => by
    subst h1
    obtain ⟨a3, a4⟩ := TrW.last (k + 1) h3
    refine ⟨fun s => ?_, fun L => ?_⟩
    · rw [a3 s, slot_next h2, List.map_cons, foldK]
      cases h0 : (evS s p).1 <;> rfl
    · rw [a4 L, heap_next h2, List.map_cons, foldK]
      cases h0 : (evH L p).1 <;> rfl
theorem TrW.two {P : Program} {ops : Array Oper} : ∀ {z : List OE} {σ σE : AS} {i j : Nat} {p q : OE}, TrW P ops σ z σE → i < j → z[i]? = some p → z[j]? = some q → (nxtE p).h.length ≤ q.2.σ.h.length
  | [], _, _, _, _, _, _, _, _, h, _ => by simp at h
  | p :: l, σ, σE, 0, j + 1, p', q, ⟨h1, h2, h3⟩, _, hp, hq => by
    simp at hp
    subst hp
    exact (TrW.get 0 j h3 (by simpa using hq)).2.2.2.2.1
  | p :: l, σ, σE, i + 1, j + 1, p', q, ⟨h1, h2, h3⟩, hij, hp, hq => TrW.two (i := i) (j := j) h3 (by omega) (by simpa using hp) (by simpa using hq)
  | p :: l, σ, σE, _, 0, p', q, _, hij, _, _ => by omega
end

-- part 21
section
open RowKit
theorem names_mem {σ : AS} {op : Op} {x : Operand} (hx : x ∈ op.operands) : ∀ L ∈ namesV (aev σ x), L ∈ namesL (opVals σ op) := by
  intro L hL
  unfold opVals
  have : ∀ (l : List Operand), x ∈ l → L ∈ namesL (l.map (aev σ)) := fun l => by
    induction l with
    | nil => intro h; cases h
    | cons y l ih =>
      intro h
      simp only [List.map_cons, namesL, List.mem_append]
      rcases List.mem_cons.1 h with rfl | h
      · exact Or.inl hL
      · exact Or.inr (ih h)
  exact this _ (by simpa using hx)
theorem touch_sub {σ : AS} {op : Op} : ∀ L ∈ touchO σ op, L ∈ namesL (opVals σ op) := by
  intro L hL
  unfold touchO at hL
  split at hL
  · exact names_mem (by simp [Op.operands]) L hL
  · exact names_mem (by simp [Op.operands]) L hL
  · exact names_mem (by simp [Op.operands]) L hL
  · split at hL
    · rename_i h
      refine names_mem ?_ L hL
      simp only [Op.operands, Call.operands]
      have := args2 h
      subst this
      simp
    · cases hL
  · split at hL
    · rename_i h
      refine names_mem ?_ L hL
      simp only [Op.operands, Call.operands]
      have := args2 h
      subst this
      simp
    · cases hL
  · cases hL
theorem touch_mask (σ : AS) (op : Op) (h : Heap) : touchO ⟨σ.n, σ.t, h⟩ op = touchO σ op := by
  have e : ∀ x : Operand, aev ⟨σ.n, σ.t, h⟩ x = aev σ x := fun x => by cases x <;> rfl
  unfold touchO
  simp only [e]
theorem allLt_mem {k : Nat} {l : List Nat} (h : allLt k l = true) : ∀ L ∈ l, L < k := fun L hL => by simpa using List.all_eq_true.1 h L hL
theorem meet_no {x y : List Nat} (h : meet x y = false) : ∀ L ∈ x, L ∉ y := by
  intro L h1 h2
  have : meet x y = true := List.any_eq_true.2 ⟨L, h1, List.any_eq_true.2 ⟨L, h2, by simp⟩⟩
  rw [h] at this; cases this
theorem conf_no {a b : Ent} (h : conf a b = false) : (∀ L ∈ a.T, L ∉ b.F ∧ L ∉ b.T) ∧ (∀ L ∈ b.T, L ∉ a.F) ∧ (∀ L ∈ b.ks, L ∉ a.rd) ∧ (∀ L ∈ a.ks, L ∉ b.vn) ∧ (∀ L ∈ a.N, L ∉ b.F ∧ L ∉ b.T ∧ L ∉ b.rd ∧ L ∉ b.vn) := by
  unfold conf at h
  simp only [Bool.or_eq_false_iff] at h
  obtain ⟨h1, h2, h3, h4, h5⟩ := h
  have k1 := meet_no h1
  have k5 := meet_no h5
  exact ⟨fun L hL => by simpa using k1 L hL, meet_no h2, meet_no h3, meet_no h4, fun L hL => by simpa using k5 L hL⟩
theorem namesH_get : ∀ {h : Heap} {L : Nat} {b : Blk}, h[L]? = some (some b) → ∀ x ∈ namesB (some b), x ∈ namesH h
  | [], _, _, e, _, _ => by simp at e
  | c :: r, 0, b, e, x, hx => by
    simp at e
    subst e
    exact List.mem_append_left _ hx
  | c :: r, L + 1, b, e, x, hx => List.mem_append_right _ (namesH_get (L := L) (by simpa using e) x hx)
theorem mask_get {F : List Nat} {h : Heap} {L : Nat} {b : Blk} (e : (maskH F h)[L]? = some (some b)) : L ∈ F ∧ h[L]? = some (some b) := by
  unfold maskH at e
  rw [List.getElem?_map, List.getElem?_zipIdx, Option.map_map, Option.map_eq_some_iff] at e
  obtain ⟨o, h1, h2⟩ := e
  simp only [Function.comp, Nat.zero_add] at h2
  split at h2
  · exact ⟨by assumption, by rw [h1, h2]⟩
  · cases h2
theorem mask_len (F : List Nat) (h : Heap) : (maskH F h).length = h.length := by simp [maskH]
theorem setH_get {T : List Nat} {lo : Nat} {h : Heap} {L : Nat} {b : Blk} (e : h[L]? = some (some b)) (hs : L ∈ T ∨ lo ≤ L) : (setH T lo h)[L]? = some (some b) := by
  unfold setH
  rw [List.getElem?_map, List.getElem?_zipIdx, e]
  simp [hs]

section
variable {P : Program} {ops : Array Oper} {p : OE}
theorem ent_T : tchE p = (entE p).T := by unfold tchE entE; split <;> rfl
theorem ent_N : newE p = (entE p).N := by unfold newE entE; split <;> rfl
theorem ent_ks (h : StepE P ops p) : p.2.ks = (entE p).ks := by
  unfold entE
  cases hr : p.2.run with
  | true => rfl
  | false => rw [if_neg (by simp), (h.no hr).2]
theorem sets_iff {L : Nat} : setsE p L = true ↔ L ∈ (entE p).T ∨ L ∈ (entE p).N := by
  unfold setsE
  rw [ent_T, ent_N]
  simp
theorem vnV (h : StepE P ops p) : ∀ x ∈ namesV p.2.v, x ∈ (entE p).vn := by
  intro x hx
  unfold entE
  cases hr : p.2.run with
  | true => exact List.mem_append_left _ hx
  | false => rw [(h.no hr).1] at hx; simp [namesV, namesL] at hx
theorem vnH (h : StepE P ops p) {L : Nat} {b : Blk} (hs : setsE p L = true) (hb : (p.2.hm[L]?).join = some b) : ∀ x ∈ namesB (some b), x ∈ (entE p).vn := by
  intro x hx
  unfold setsE tchE newE at hs
  cases hr : p.2.run with
  | true =>
    simp only [hr, if_true, Bool.or_eq_true, decide_eq_true_eq, mem_newL] at hs
    unfold entE
    rw [hr]
    refine List.mem_append_right _ (namesH_get (L := L) (setH_get ?_ (hs.imp id And.left)) x hx)
    cases hq : p.2.hm[L]? with
    | none => rw [hq] at hb; cases hb
    | some y => rw [hq] at hb; simp at hb; rw [hb]
  | false => simp [hr] at hs
theorem vn_lt (h : StepE P ops p) : ∀ x ∈ (entE p).vn, x < (nxtE p).h.length := by
  intro x hx
  rw [next_len h]
  unfold entE at hx
  cases hr : p.2.run with
  | true =>
    rw [hr] at hx
    exact allLt_mem (h.yes hr).vlt x hx
  | false => rw [hr] at hx; simp at hx
theorem N_iff {L : Nat} (h : StepE P ops p) : L ∈ (entE p).N ↔ p.2.σ.h.length ≤ L ∧ L < (nxtE p).h.length := by
  rw [next_len h]
  unfold entE
  cases hr : p.2.run with
  | true => exact mem_newL
  | false => simp
end

theorem HRel.mask {w0 : World} {ok0 : Nat → Prop} {m : List (Option Nat)} {ok : Nat → Prop} {hS : Heap} {w : World} (r : HRel w0 ok0 m ok hS w) {mk : Heap} (hlen : mk.length ≤ m.length) (hmk : ∀ (L : Nat) blk, mk[L]? = some (some blk) → (∃ b0, hS[L]? = some (some b0)) ∧ OwnB m ok w L blk) (href : ∀ L ∈ namesH mk, L < mk.length) : HRel w0 ok0 (m.take mk.length) ok mk w := by
  have get : ∀ {L : Nat} {b : Option Nat}, (m.take mk.length)[L]? = some b → m[L]? = some b := fun {L b} hm => by
    rw [List.getElem?_take] at hm
    split at hm
    · exact hm
    · cases hm
  refine ⟨by rw [List.length_take]; omega, fun L blk hL => ?_, fun L L' b h1 h2 => r.inj L L' b (get h1) (get h2), fun L b blk hL hm => ?_, fun L b hm => r.new L b (get hm), r.okb, r.oko, r.bel, r.tab⟩
  · have hlt : L < mk.length := (List.getElem?_eq_some_iff.1 hL).1
    have ho := (hmk L blk hL).2
    cases blk with
    | var t xs =>
      obtain ⟨b, cs, hm, hb, hx, hone⟩ := ho
      exact ⟨b, cs, trim_get hlt hm, hb, RepL.trim xs (namesL_refs xs fun x hx => href x (namesH_get hL x hx)) hx, hone⟩
    | row e st es =>
      obtain ⟨ob, hm, hx⟩ := ho
      exact ⟨ob, trim_get hlt hm, hx⟩
    | map k es =>
      obtain ⟨b, l, clock, hm, hx⟩ := ho
      exact ⟨b, l, clock, trim_get hlt hm, hx⟩
  · obtain ⟨b0, h0⟩ := (hmk L blk hL).1
    exact r.nok L b b0 h0 (get hm)

theorem HRel.comb {w0 : World} {ok0 : Nat → Prop} {m m' : List (Option Nat)} {ok ok' : Nat → Prop} {hS hS' hm : Heap} {w w' : World} {lo : Nat} {T ks : List Nat} (r : HRel w0 ok0 m ok hS w) (hlo : lo ≤ hm.length) (hhi : hm.length ≤ m.length) (g : Grow [] ks (m.take lo) ok w m' ok' w') (r' : HRel w0 ok0 m' ok' hm w') (f : Fr T (m.take lo) ok w m' ok' w') (hks : ∀ L ∈ ks, L ∈ T) (hT : ∀ L ∈ T, L < lo) (hl : hS'.length = hS.length)
    (hA : ∀ (L : Nat) blk, hS'[L]? = some (some blk) → (L ∈ T ∨ L ∈ newL lo hm.length) → OwnB m' ok' w' L blk ∧ ∃ b0, hm[L]? = some (some b0))
    (hB : ∀ (L : Nat) blk, hS'[L]? = some (some blk) → L ∉ T → L ∉ newL lo hm.length → ∃ b0, hS[L]? = some (some b0) ∧ blk = killB [] (ks ++ newL lo hm.length) b0) :
    Grow [] (ks ++ newL lo hm.length) m ok w (m' ++ m.drop hm.length) ok' w' ∧ HRel w0 ok0 (m' ++ m.drop hm.length) ok' hS' w' ∧ ∀ (L : Nat) b, m'[L]? = some b → (m' ++ m.drop hm.length)[L]? = some b := by
  have hlen := r'.len
  have low : ∀ L, L < hm.length → (m' ++ m.drop hm.length)[L]? = m'[L]? := fun L h => by rw [List.getElem?_append_left (by omega)]
  have high : ∀ L, hm.length ≤ L → (m' ++ m.drop hm.length)[L]? = m[L]? := fun L h => by
    rw [List.getElem?_append_right (by omega), List.getElem?_drop, hlen, show hm.length + (L - hm.length) = L by omega]
  have tk : ∀ L, L < lo → (m.take lo)[L]? = m[L]? := fun L h => by rw [List.getElem?_take, if_pos h]
  have tk' : ∀ {L : Nat} {b : Option Nat}, (m.take lo)[L]? = some b → m[L]? = some b ∧ L < lo := fun {L b} hm => by
    rw [List.getElem?_take] at hm
    split at hm
    · exact ⟨hm, by assumption⟩
    · cases hm
  have same : ∀ (L b : Nat), L ∉ T → m[L]? = some (some b) → w'.heap[b]? = w.heap[b]? := fun L b hn hm => f.same b (r.new L b hm).2 fun L' hL' h => hn (r.inj L' L b (tk' h).1 hm ▸ hL')
  have g2 : Grow [] (ks ++ newL lo hm.length) m ok w (m' ++ m.drop hm.length) ok' w' := by
    refine ⟨fun L b hn h => ?_, g.mo, g.cells, fun L b s hn h hs => ?_, ⟨(fun L st n v st' es _ _ he => by simp [elemsA] at he), fun L j v y _ _ he => by simp [ptrD] at he⟩, g.others⟩
    · simp only [List.mem_append, mem_newL, not_or, not_and] at hn
      rcases Nat.lt_or_ge L lo with h1 | h1
      · rw [low L (by omega)]
        exact g.mm L b hn.1 (by rw [tk L h1]; exact h)
      · rw [high L (by have := hn.2 h1; omega)]; exact h
    · simp only [List.mem_append, mem_newL, not_or, not_and] at hn
      rcases Nat.lt_or_ge L lo with h1 | h1
      · exact g.shape L b s hn.1 (by rw [tk L h1]; exact h) hs
      · unfold World.shape? at *
        rw [same L b (fun hc => by have := hT L hc; omega) h]
        exact hs
  refine ⟨g2, ⟨?_, fun L blk hL => ?_, fun L L' b h1 h2 => ?_, fun L b blk hL hm2 hk => ?_, fun L b h => ?_, r'.okb, r'.oko, r'.bel, r'.tab⟩, fun L b h => by rw [low L (by rw [← hlen]; exact (List.getElem?_eq_some_iff.1 h).1)]; exact h⟩
  · rw [List.length_append, List.length_drop, hlen, hl, ← r.len]; omega
  · by_cases hc : L ∈ T ∨ L ∈ newL lo hm.length
    · exact (hA L blk hL hc).1.up fun L b h => by rw [low L (by rw [← hlen]; exact (List.getElem?_eq_some_iff.1 h).1)]; exact h
    · simp only [not_or] at hc
      obtain ⟨b0, h0, rfl⟩ := hB L blk hL hc.1 hc.2
      exact OwnB.kill g2 (by simp only [List.mem_append, not_or]; exact ⟨fun h => hc.1 (hks L h), hc.2⟩) (fun b hb => same L b hc.1 hb) (r.own L b0 h0)
  · have cross : ∀ (L L' b : Nat), L < hm.length → hm.length ≤ L' → (m' ++ m.drop hm.length)[L]? = some (some b) → (m' ++ m.drop hm.length)[L']? = some (some b) → L = L' := fun L L' b q1 q2 h1 h2 => by
      rw [low L q1] at h1
      rw [high L' q2] at h2
      rcases f.mold L b h1 with h3 | h3
      · exact r.inj L L' b (tk' h3).1 h2
      · have := (r.new L' b h2).2; omega
    rcases Nat.lt_or_ge L hm.length with q1 | q1 <;> rcases Nat.lt_or_ge L' hm.length with q2 | q2
    · rw [low L q1] at h1
      rw [low L' q2] at h2
      exact r'.inj L L' b h1 h2
    · exact cross L L' b q1 q2 h1 h2
    · exact (cross L' L b q2 q1 h2 h1).symm
    · rw [high L q1] at h1
      rw [high L' q2] at h2
      exact r.inj L L' b h1 h2
  · by_cases hc : L ∈ T ∨ L ∈ newL lo hm.length
    · obtain ⟨_, b0, h0⟩ := hA L blk hL hc
      have hlt := (List.getElem?_eq_some_iff.1 h0).1
      rw [low L hlt] at hm2
      exact r'.nok L b b0 h0 hm2 hk
    · simp only [not_or] at hc
      obtain ⟨b0, h0, rfl⟩ := hB L blk hL hc.1 hc.2
      have hm0 : m[L]? = some (some b) := by
        rcases Nat.lt_or_ge L hm.length with q1 | q1
        · have hlo' : L < lo := by
            rcases Nat.lt_or_ge L lo with h | h
            · exact h
            · exact absurd (mem_newL.2 ⟨h, q1⟩) hc.2
          rw [low L q1] at hm2
          have hex : m[L]? = some m[L] := List.getElem?_eq_getElem (by omega)
          have := f.mun L _ hc.1 (by rw [tk L hlo']; exact hex)
          rw [hm2] at this
          rw [hex]; exact this.symm
        · rw [high L q1] at hm2; exact hm2
      rcases f.okn b hk with h1 | h1 | ⟨L', h1, h2⟩
      · exact r.nok L b b0 h0 hm0 h1
      · have := (r.new L b hm0).2; omega
      · exact hc.1 (r.inj L' L b (tk' h2).1 hm0 ▸ h1)
  · rcases Nat.lt_or_ge L hm.length with q1 | q1
    · rw [low L q1] at h
      exact r'.new L b h
    · rw [high L q1] at h
      exact ⟨(r.new L b h).1, Nat.lt_of_lt_of_le (r.new L b h).2 g.others.size⟩

def heapL (σ : AS) (z : List OE) (H : Nat) (S : Nat → Bool) : Heap := (List.range H).map fun L => foldK kO S 0 (z.map (evH L)) ((σ.h[L]?).join)
theorem heapL_len (σ : AS) (z : List OE) (H : Nat) (S : Nat → Bool) : (heapL σ z H S).length = H := by simp [heapL]
theorem heapL_get {σ : AS} {z : List OE} {H : Nat} {S : Nat → Bool} {L : Nat} {x : Option Blk} : (heapL σ z H S)[L]? = some x ↔ L < H ∧ foldK kO S 0 (z.map (evH L)) ((σ.h[L]?).join) = x := by
  unfold heapL
  rw [List.getElem?_map, Option.map_eq_some_iff]
  constructor
  · rintro ⟨y, h1, h2⟩
    obtain ⟨h3, h4⟩ := List.getElem?_eq_some_iff.1 h1
    simp at h3 h4
    subst h4
    exact ⟨h3, h2⟩
  · rintro ⟨h1, h2⟩
    exact ⟨L, by rw [List.getElem?_range h1], h2⟩

/-- What holds when those operations that are listed have been carried out. -/
structure InvW (w0 : World) (ok0 : Nat → Prop) (rr : Option Nat) (wS : World) (ρx : Nat → Value) (σ : AS) (ops : Array Oper) (z : List OE) (H : Nat) (listed : Array Bool) (a : Act) (w : World) : Prop where
  sz : listed.size = ops.size
  cl : ∀ j o, ops[j]? = some o → listed.getD j false = true → ∀ e ∈ o.after, Region.binds .any e = true → listed.getD e.on false = true
  rel : ∃ m ok, Marks rr wS a w ∧ a.tmps.size = σ.n ∧ (∀ s, RepV m ok w (foldK (killV []) (fun j => listed.getD j false) 0 (z.map (evS s)) (slot σ.t s)) (valX ρx σ.n a s)) ∧ HRel w0 ok0 m ok (heapL σ z H fun j => listed.getD j false) w

theorem drawW_ok {P : Program} {ops : Array Oper} {w0 : World} {ok0 : Nat → Prop} {rr : Option Nat} {wS : World} {ρx : Nat → Value} {σ σE : AS} {z : List OE} {Q : Exit → Act → World → Prop} (hok : drawOk ops = true) (hzl : z.length = ops.size) (hz1 : ∀ (i : Nat) p, z[i]? = some p → ops[i]? = some p.1) (htr : TrW P ops σ z σE)
    (hcf : ∀ (a b : Nat) pa pb, a < b → z[a]? = some pa → z[b]? = some pb → conf (entE pa) (entE pb) = true → ((befs ops.toList []).getD b 0).testBit a = true) (hds : ∀ o ∈ ops.toList, opsLt σ.n o = true) (hs0 : refsT σ.h.length σ.t = true) (hh0 : refsH σ.h.length σ.h = true)
    (hQ : ∀ a w, RelS w0 ok0 rr wS ρx σE a w → Q .normal a w) :
    ∀ (fuel : Nat) (listed : Array Bool) (a : Act) (w : World), (List.range ops.size).countP (fun i => !listed.getD i false) ≤ fuel → InvW w0 ok0 rr wS ρx σ ops z σE.h.length listed a w → wpAnyIn (FW rr) 0 P .any ops Q fuel listed a w := by
  have hz2 : ∀ (i : Nat) o, ops[i]? = some o → ∃ e, z[i]? = some (o, e) := fun i o h => by
    have hlt := (Array.getElem?_eq_some_iff.1 h).1
    have hz : z[i]? = some z[i] := List.getElem?_eq_getElem (by omega)
    have := hz1 i _ hz
    rw [h] at this
    refine ⟨z[i].2, ?_⟩
    rw [hz, Option.some.inj this]
  have evget : ∀ {α : Type} {f : OE → α} {j : Nat} {e : α}, (z.map f)[j]? = some e → ∃ p, z[j]? = some p ∧ f p = e := fun {α f j e} h => by
    rw [List.getElem?_map, Option.map_eq_some_iff] at h
    exact h
  have done : ∀ (listed : Array Bool) (a : Act) (w : World), InvW w0 ok0 rr wS ρx σ ops z σE.h.length listed a w → (∀ i, i < ops.size → listed.getD i false = true) → Q .normal a w := fun listed a w inv hall => by
    obtain ⟨m, ok, h1, h2, h3, h4⟩ := inv.rel
    obtain ⟨l1, l2⟩ := htr.last 0
    have hn := htr.le.2
    refine hQ a w ⟨m, ok, h1, by rw [h2, hn], fun s => ?_, ?_⟩
    · rw [hn, l1 s, ← fold_same (fun j => listed.getD j false) (fun _ => true) _ 0 _ fun j hj => by
        rw [Nat.zero_add]
        exact hall j (by simp at hj; omega)]
      exact h3 s
    · have : (heapL σ z σE.h.length fun j => listed.getD j false) = σE.h := by
        apply List.ext_getElem?
        intro L
        rcases Nat.lt_or_ge L σE.h.length with hL | hL
        · rw [List.getElem?_eq_getElem hL]
          refine heapL_get.2 ⟨hL, ?_⟩
          rw [fold_same (fun j => listed.getD j false) (fun _ => true) _ 0 _ fun j hj => by
            rw [Nat.zero_add]
            exact hall j (by simp at hj; omega), ← l2 L, List.getElem?_eq_getElem hL]
          rfl
        · rw [List.getElem?_eq_none hL, List.getElem?_eq_none (by rw [heapL_len]; exact hL)]
      rw [← this]; exact h4
  intro fuel
  induction fuel with
  | zero =>
    intro listed a w hf inv
    have hall : ∀ i, i < ops.size → listed.getD i false = true := fun i hi => by
      have h0 : (List.range ops.size).countP (fun i => !listed.getD i false) = 0 := by omega
      rw [List.countP_eq_zero] at h0
      have := h0 i (by simpa using hi)
      simpa using this
    refine ⟨?_, done listed a w inv hall⟩
    cases hrd : Region.ready .any ops listed with
    | nil => rfl
    | cons i r =>
      obtain ⟨hun, o, ho, _⟩ := mem_ready.1 (show i ∈ Region.ready .any ops listed by rw [hrd]; simp)
      have hisz := (Array.getElem?_eq_some_iff.1 ho).1
      have := unlisted (by rw [inv.sz]; exact hisz) hun
      rw [hall i hisz] at this; cases this
  | succ fuel ih =>
    intro listed a w hf inv
    refine ⟨fun hnil => ?_, fun i hi => ?_⟩
    · refine done listed a w inv fun i hi => ?_
      cases hb : listed.getD i false with
      | true => rfl
      | false =>
        obtain ⟨j, _, hj⟩ := ready_min hok inv.sz (i + 1) i (by omega) hi hb
        rw [hnil] at hj; cases hj
    obtain ⟨hun, o, ho, hpre⟩ := mem_ready.1 hi
    have hisz := (Array.getElem?_eq_some_iff.1 ho).1
    have hils : i < listed.size := by rw [inv.sz]; exact hisz
    have hun' : listed.getD i false = false := unlisted hils hun
    obtain ⟨e, hz⟩ := hz2 i o ho
    obtain ⟨hst, hen, hsl, hhp, hlo, hhi⟩ := htr.get 0 i hz
    rw [Nat.zero_add] at hsl hhp
    obtain ⟨m, ok, hdf, hsz, ht, r⟩ := inv.rel
    have hml : m.length = σE.h.length := by rw [r.len, heapL_len]
    -- what is not ordered
    have nb1 : ∀ (j : Nat), j < i → listed.getD j false = false → ((befs ops.toList []).getD i 0).testBit j = false := fun j hj hb => by
      cases hq : ((befs ops.toList []).getD i 0).testBit j with
      | false => rfl
      | true =>
        have := before_listed hok (L := fun k => listed.getD k false = true) inv.cl (i + 1) i (by omega) o ho hpre j hq
        simp only [hb] at this
        cases this
    have nb2 : ∀ (j : Nat) (p : OE), i < j → z[j]? = some p → listed.getD j false = true → ((befs ops.toList []).getD j 0).testBit i = false := fun j p hj hp hb => by
      cases hq : ((befs ops.toList []).getD j 0).testBit i with
      | false => rfl
      | true =>
        have hj' := hz1 j p hp
        have := before_listed hok (L := fun k => listed.getD k false = true) inv.cl (j + 1) j (by omega) p.1 hj' (inv.cl j p.1 hj' hb) i hq
        simp only [hun'] at this
        cases this
    have c1 : ∀ (j : Nat) (p : OE), j < i → z[j]? = some p → listed.getD j false = false → conf (entE p) (entE (o, e)) = false := fun j p hj hp hb => by
      cases hq : conf (entE p) (entE (o, e)) with
      | false => rfl
      | true =>
        have := hcf j i p (o, e) hj hp hz hq
        rw [nb1 j hj hb] at this; cases this
    have c2 : ∀ (j : Nat) (p : OE), i < j → z[j]? = some p → listed.getD j false = true → conf (entE (o, e)) (entE p) = false := fun j p hj hp hb => by
      cases hq : conf (entE (o, e)) (entE p) with
      | false => rfl
      | true =>
        have := hcf i j (o, e) p hj hz hp hq
        rw [nb2 j p hj hp hb] at this; cases this
    have s1 : ∀ (j : Nat) (p : OE) (d : Nat), j < i → z[j]? = some p → listed.getD j false = false → d ∈ names ops o → p.1.dst ≠ some d := fun j p d hj hp hb hd h => by
      have := drawOk_share hok (hz1 j p hp) ho hj (Or.inl ⟨d, h, hd⟩)
      rw [nb1 j hj hb] at this; cases this
    have s2 : ∀ (j : Nat) (p : OE) (d : Nat), i < j → z[j]? = some p → listed.getD j false = true → d ∈ names ops o → p.1.dst ≠ some d := fun j p d hj hp hb hd h => by
      have := drawOk_share hok ho (hz1 j p hp) hj (Or.inr ⟨d, h, hd⟩)
      rw [nb2 j p hj hp hb] at this; cases this
    have later : ∀ (j : Nat), i ≤ j → listed.getD j false = true → i < j := fun j h1 h2 => by
      rcases Nat.eq_or_lt_of_le h1 with h | h
      · subst h; rw [hun'] at h2; cases h2
      · exact h
    -- the slots that this operation names
    have look : ∀ t, t ∈ names ops o → (∀ (j : Nat) p, i < j → z[j]? = some p → listed.getD j false = true → ∀ L ∈ namesV (slot e.σ.t t), L ∉ p.2.ks) → RepV m ok w (slot e.σ.t t) (valX ρx σ.n a t) := fun t htn hav => by
      rw [hsl t]
      refine fold_read kill_comm (R := fun x => RepV m ok w x (valX ρx σ.n a t)) (fun A x h => RepV.kill0 A x h) (S := fun j => listed.getD j false) (i := i) (fun j ev hj hev hb => ?_) (fun j ev hj hev hb => ?_) (ht t)
      · obtain ⟨p, hp, rfl⟩ := evget hev
        simp only [evS]
        rw [if_neg (s1 j p t hj hp hb htn)]
      · obtain ⟨p, hp, rfl⟩ := evget hev
        have hj' := later j hj hb
        refine ⟨by simp only [evS]; rw [if_neg (s2 j p t hj' hp hb htn)], ?_⟩
        rw [← hsl t]
        exact kill_avoid _ (hav j p hj' hp hb)
    have hlop : opsLt σ.n o = true := hds o (by simpa using Array.mem_of_getElem? ho)
    simp only [opsLt, Bool.and_eq_true] at hlop
    have hset : ∀ j, (listed.setIfInBounds i true).getD j false = if j = i then true else listed.getD j false := set_hit hils
    have hseti : (fun j => (listed.setIfInBounds i true).getD j false) = fun j => if j = i then true else listed.getD j false := funext hset
    have hcount := count_set hisz hils hun' hf
    -- what is new is named nowhere
    have hN : ∀ L ∈ (entE (o, e)).N, e.σ.h.length ≤ L ∧ L < (nxtE (o, e)).h.length := fun L hL => (N_iff hst).1 hL
    have vfar : ∀ (j : Nat) p, z[j]? = some p → listed.getD j false = true → ∀ x ∈ (entE p).vn, x ∉ (entE (o, e)).N := fun j p hp hb x hx hxn => by
      have hne : j ≠ i := fun h => by subst h; rw [hun'] at hb; cases hb
      rcases Nat.lt_or_gt_of_ne hne with hj | hj
      · have h1 := vn_lt (htr.get 0 j hp).1 x hx
        have h2 := htr.two hj hp hz
        have := (hN x hxn).1
        simp only at h2
        omega
      · exact ((conf_no (c2 j p hj hp hb)).2.2.2.2 x hxn).2.2.2 hx
    have qS : ∀ s, killV [] (entE (o, e)).N (foldK (killV []) (fun j => listed.getD j false) 0 (z.map (evS s)) (slot σ.t s)) = foldK (killV []) (fun j => listed.getD j false) 0 (z.map (evS s)) (slot σ.t s) := fun s => by
      refine fold_all (R := fun x => killV [] (entE (o, e)).N x = x) (fun A x h => by rw [kill_comm, h]) _ _ 0 _ (kill_avoid _ fun L hL h => ?_) fun j ev y hev hb hy => ?_
      · have h1 := refs_names _ (refsT_slot s hs0) L hL
        have := (hN L h).1
        simp only at hlo
        omega
      · obtain ⟨p, hp, rfl⟩ := evget hev
        simp only [evS] at hy
        split at hy
        · cases hy
          refine kill_avoid _ fun x hx => vfar j p hp (by simpa using hb) x (vnV (htr.get 0 j hp).1 x hx)
        · cases hy
    have qH : ∀ L, kO (entE (o, e)).N (foldK kO (fun j => listed.getD j false) 0 (z.map (evH L)) ((σ.h[L]?).join)) = foldK kO (fun j => listed.getD j false) 0 (z.map (evH L)) ((σ.h[L]?).join) := fun L => by
      refine fold_all (R := fun x => kO (entE (o, e)).N x = x) (fun A x h => by rw [kO_comm, h]) _ _ 0 _ ?_ fun j ev y hev hb hy => ?_
      · cases hq : (σ.h[L]?).join with
        | none => rfl
        | some b =>
          have hg : σ.h[L]? = some (some b) := by
            cases hx : σ.h[L]? with
            | none => rw [hx] at hq; cases hq
            | some x => rw [hx] at hq; simp at hq; rw [hq]
          refine congrArg some (killB_avoid fun x hx h => ?_)
          have h1 : x < σ.h.length := by
            cases b with
            | var t cs => exact refsL_names cs (refsH_get hh0 hg) x hx
            | row t st es => simp [namesB] at hx
            | map k es => simp [namesB] at hx
          have := (hN x h).1
          simp only at hlo
          omega
      · obtain ⟨p, hp, rfl⟩ := evget hev
        simp only [evH] at hy
        split at hy
        · rename_i hsets
          cases hy
          cases hq : (p.2.hm[L]?).join with
          | none => rfl
          | some b => exact congrArg some (killB_avoid fun x hx => vfar j p hp (by simpa using hb) x (vnH (htr.get 0 j hp).1 hsets hq x hx))
        · cases hy
    -- what is known behind it
    have next : ∀ (m' : List (Option Nat)) (ok' : Nat → Prop) (u : Value) (w' : World), Grow [] (e.ks ++ (entE (o, e)).N) m ok w m' ok' w' → HRel w0 ok0 m' ok' (heapL σ z σE.h.length fun j => if j = i then true else listed.getD j false) w' → RepV m' ok' w' e.v u → InvW w0 ok0 rr wS ρx σ ops z σE.h.length (listed.setIfInBounds i true) (a.put o.dst u) w' := fun m' ok' u w' g r' hv => by
      refine ⟨by simp [inv.sz], fun j o' hj hl e' he hb => ?_, ⟨m', ok', hdf.step g.others (put_defers _ _ _), by rw [put_size, hsz], fun s => ?_, by rw [hseti]; exact r'⟩⟩
      · by_cases hji : j = i
        · subst hji
          rw [ho] at hj; cases hj
          exact getD_set_true (hpre e' he hb)
        · rw [getD_set_ne false (Ne.symm hji)] at hl
          exact getD_set_true (inv.cl j o' hj hl e' he hb)
      · rw [hseti, valX_put hsz hlop.1]
        have hev : (z.map (evS s))[i]? = some (evS s (o, e)) := by rw [List.getElem?_map, hz]; rfl
        by_cases hd : o.dst = some s
        · rw [if_pos hd]
          obtain ⟨ksl, hk⟩ := fold_write (κ := killV []) (S := fun j => listed.getD j false) (x0 := slot σ.t s) hev (y := e.v) (by simp [evS, hd]) fun j ev hj hev hb => by
            obtain ⟨p, hp, rfl⟩ := evget hev
            simp only [evS]
            rw [if_neg (s2 j p s hj hp hb (by simp [names, hd]))]
          rw [hk]
          exact foldl_rep (R := fun x => RepV m' ok' w' x u) (fun A x h => RepV.kill0 A x h) ksl _ hv
        · rw [if_neg hd]
          rw [fold_insert kill_comm (S := fun j => listed.getD j false) hev (by simp [evS, hd]) hun' fun j ev y hj hev hb hy => by
            obtain ⟨p, hp, rfl⟩ := evget hev
            simp only [evS] at hy
            split at hy
            · cases hy
              refine kill_avoid _ fun x hx hk => ?_
              have hc := (conf_no (c2 j p hj hp hb)).2.2.2.1
              rw [← ent_ks hst] at hc
              exact hc x hk (vnV (htr.get 0 j hp).1 x hx)
            · cases hy]
          have := RepV.kill g _ (ht s)
          rw [kill_app, qS s] at this
          exact this
    -- the entries that are not set
    have hins : ∀ L, ¬ setsE (o, e) L = true → foldK kO (fun j => if j = i then true else listed.getD j false) 0 (z.map (evH L)) ((σ.h[L]?).join) = kO e.ks (foldK kO (fun j => listed.getD j false) 0 (z.map (evH L)) ((σ.h[L]?).join)) := fun L hL => by
      have hev : (z.map (evH L))[i]? = some (evH L (o, e)) := by rw [List.getElem?_map, hz]; rfl
      rw [fold_insert kO_comm (S := fun j => listed.getD j false) hev (by simp [evH, hL]) hun' fun j ev y hj hev hb hy => by
        obtain ⟨p, hp, rfl⟩ := evget hev
        simp only [evH] at hy
        split at hy
        · rename_i hsets
          cases hy
          cases hq : (p.2.hm[L]?).join with
          | none => rfl
          | some b =>
            refine congrArg some (killB_avoid fun x hx hk => ?_)
            have hc := (conf_no (c2 j p hj hp hb)).2.2.2.1
            rw [← ent_ks hst] at hc
            exact hc x hk (vnH (htr.get 0 j hp).1 hsets hq x hx)
        · cases hy]
      rfl
    have exec : e.run = true → o.wpIn (FW rr) 0 P a w (wpAnyIn (FW rr) 0 P .any ops Q fuel (listed.setIfInBounds i true)) Q := fun hrun => by
      have R := hst.yes hrun
      have eT : (entE (o, e)).T = touchO e.σ o.op ++ e.ks := by unfold entE; rw [if_pos hrun]; rfl
      have eN : (entE (o, e)).N = newL e.σ.h.length e.hm.length := by unfold entE; rw [if_pos hrun]; rfl
      have eF : (entE (o, e)).F = readO e.σ o.op := by unfold entE; rw [if_pos hrun]; rfl
      have erd : (entE (o, e)).rd = namesL (opVals e.σ o.op) ++ namesH (maskH (readO e.σ o.op) e.σ.h) := by unfold entE; rw [if_pos hrun]; rfl
      have hnl : (nxtE (o, e)).h.length = e.hm.length := by rw [next_len hst, if_pos hrun]
      simp only at hhi hlo
      rw [hnl] at hhi
      have hlen := R.len
      simp only at hlen
      have hmk : ∀ (L : Nat) blk, (maskH (readO e.σ o.op) e.σ.h)[L]? = some (some blk) → (∃ b0, (heapL σ z σE.h.length fun j => listed.getD j false)[L]? = some (some b0)) ∧ OwnB m ok w L blk := fun L blk hL => by
        obtain ⟨hF, hg⟩ := mask_get hL
        have hLlt : L < e.σ.h.length := (List.getElem?_eq_some_iff.1 hg).1
        have hx : foldK kO (fun j => decide (j < i)) 0 (z.map (evH L)) ((σ.h[L]?).join) = some blk := by rw [← hhp L]; simp only; rw [hg]; rfl
        have a1 : ∀ (j : Nat) ev, j < i → (z.map (evH L))[j]? = some ev → listed.getD j false = false → ev.1 = none := fun j ev hj hev hb => by
          obtain ⟨p, hp, rfl⟩ := evget hev
          simp only [evH]
          rw [if_neg]
          intro hs
          have hc := conf_no (c1 j p hj hp hb)
          rcases sets_iff.1 hs with h | h
          · exact (hc.1 L h).1 (by rw [eF]; exact hF)
          · exact (hc.2.2.2.2 L h).1 (by rw [eF]; exact hF)
        have a2 : ∀ (j : Nat) ev, i ≤ j → (z.map (evH L))[j]? = some ev → listed.getD j false = true → ev.1 = none ∧ kO ev.2 (foldK kO (fun j => decide (j < i)) 0 (z.map (evH L)) ((σ.h[L]?).join)) = foldK kO (fun j => decide (j < i)) 0 (z.map (evH L)) ((σ.h[L]?).join) := fun j ev hj hev hb => by
          obtain ⟨p, hp, rfl⟩ := evget hev
          have hj' := later j hj hb
          have hc := conf_no (c2 j p hj' hp hb)
          refine ⟨?_, ?_⟩
          · simp only [evH]
            rw [if_neg]
            intro hs
            rcases sets_iff.1 hs with h | h
            · exact hc.2.1 L h (by rw [eF]; exact hF)
            · have h1 := ((N_iff (htr.get 0 j hp).1).1 h).1
              have h2 := htr.two hj' hz hp
              have := next_le hst
              simp only at this h2
              omega
          · rw [hx]
            refine congrArg some (killB_avoid fun x hxm hk => ?_)
            rw [show (evH L p).2 = p.2.ks from rfl, ent_ks (htr.get 0 j hp).1] at hk
            exact hc.2.2.1 x hk (by rw [erd]; exact List.mem_append_right _ (namesH_get hL x hxm))
        refine ⟨?_, ?_⟩
        · cases hq : foldK kO (fun j => listed.getD j false) 0 (z.map (evH L)) ((σ.h[L]?).join) with
          | none =>
            have := fold_read kO_comm (R := fun x => x = none) (fun A x h => by rw [h]; rfl) (S := fun j => listed.getD j false) (i := i) a1 a2 hq
            rw [hx] at this; cases this
          | some b0 => exact ⟨b0, heapL_get.2 ⟨by omega, hq⟩⟩
        · have := fold_read kO_comm (R := fun x => ∀ b, x = some b → OwnB m ok w L b) (fun A x h b hb => by
            cases x with
            | none => cases hb
            | some b0 => cases hb; exact (h b0 rfl).kill0 A) (S := fun j => listed.getD j false) (i := i) a1 a2 fun b hb => r.own L b (heapL_get.2 ⟨by omega, hb⟩)
          exact this blk hx
      have r0 := r.mask (mk := maskH (readO e.σ o.op) e.σ.h) (by rw [mask_len]; omega) hmk (by rw [mask_len]; exact allLt_mem R.mlt)
      rw [mask_len] at r0
      have hx : ∀ x ∈ o.op.operands, RepV (m.take e.σ.h.length) ok w (aev ⟨e.σ.n, e.σ.t, maskH (readO e.σ o.op) e.σ.h⟩ x) (a.eval x) := fun x hx => by
        cases x with
        | tmp t =>
          have hnm : ∀ L ∈ namesV (slot e.σ.t t), L ∈ namesL (opVals e.σ o.op) := names_mem hx
          have h1 := look t (by
            unfold names Oper.looksAt
            simp only [List.mem_append, List.mem_filterMap]
            exact Or.inl (Or.inl ⟨.tmp t, by simpa using hx, rfl⟩)) fun j p hj hp hb L hL hk => by
              rw [ent_ks (htr.get 0 j hp).1] at hk
              exact (conf_no (c2 j p hj hp hb)).2.2.1 L hk (by rw [erd]; exact List.mem_append_left _ (hnm L hL))
          have h2 := Array.all_eq_true_iff_forall_mem.1 hlop.2 _ hx
          unfold valX at h1
          rw [if_pos (by simpa [opLt] using h2)] at h1
          exact RepV.trim _ (names_refs _ fun L hL => allLt_mem R.lt L (hnm L hL)) h1
        | const v => exact cv_rep _ ok w v
        | global g => exact r.tab.at g
        | func f => exact ⟨#[], rfl, rfl⟩
      refine wp_of_exec (R.op w0 ok0 _ ok a.eval w hx r0) fun u w' hp => ?_
      obtain ⟨m', ok', g, r', hv, f⟩ := hp
      have f := f trivial
      rw [touch_mask] at f
      have eks : ∀ L ∈ e.ks, L ∈ touchO e.σ o.op ++ e.ks := fun L hL => List.mem_append_right _ hL
      have etl : ∀ L ∈ touchO e.σ o.op ++ e.ks, L < e.σ.h.length := fun L hL => (List.mem_append.1 hL).elim (fun h => allLt_mem R.lt L (touch_sub L h)) (fun h => allLt_mem R.kt L h)
      obtain ⟨g2, r2, up⟩ := r.comb (hS' := heapL σ z σE.h.length fun j => if j = i then true else listed.getD j false) hlen (by omega) g r' f eks etl (by rw [heapL_len, heapL_len]) (fun L blk hL hc => by
        have hs : setsE (o, e) L = true := sets_iff.2 (by rw [eT, eN]; exact hc)
        have hev : (z.map (evH L))[i]? = some (evH L (o, e)) := by rw [List.getElem?_map, hz]; rfl
        obtain ⟨ksl, hk⟩ := fold_write (κ := kO) (S := fun j => listed.getD j false) (x0 := (σ.h[L]?).join) hev (y := (e.hm[L]?).join) (by simp [evH, hs]) fun j ev hj hev hb => by
          obtain ⟨p, hp, rfl⟩ := evget hev
          simp only [evH]
          rw [if_neg]
          intro hs'
          have hcc := conf_no (c2 j p hj hp hb)
          rw [eT, eN] at hcc
          rcases sets_iff.1 hs' with h | h
          · rcases hc with hc | hc
            · exact (hcc.1 L hc).2 h
            · exact (hcc.2.2.2.2 L hc).2.1 h
          · have h1 := ((N_iff (htr.get 0 j hp).1).1 h).1
            have h2 := htr.two hj hz hp
            rw [hnl] at h2
            rcases hc with hc | hc
            · have := etl L hc
              try simp only at this
              omega
            · have := mem_newL.1 hc; omega
        have hfold := (heapL_get.1 hL).2
        rw [hk] at hfold
        have key : ∀ (ksl : List (List Nat)) (y : Option Blk) (b : Blk), ksl.foldl (fun x A => kO A x) y = some b → ∃ b0, y = some b0 := fun ksl => by
          induction ksl with
          | nil => intro y b h; exact ⟨b, h⟩
          | cons A ksl ih =>
            intro y b h
            obtain ⟨b1, h1⟩ := ih _ b h
            cases y with
            | none => cases h1
            | some b0 => exact ⟨b0, rfl⟩
        obtain ⟨b0, hb0⟩ := key _ _ _ hfold
        have hg : e.hm[L]? = some (some b0) := by
          cases hq : e.hm[L]? with
          | none => rw [hq] at hb0; cases hb0
          | some y => rw [hq] at hb0; simp at hb0; rw [hb0]
        have := foldl_rep (κ := kO) (R := fun x => ∀ b, x = some b → OwnB m' ok' w' L b) (fun A x h b hb => by
          cases x with
          | none => cases hb
          | some b1 => cases hb; exact (h b1 rfl).kill0 A) ksl (e.hm[L]?).join (fun b hb => by
            rw [hb0] at hb; cases hb
            exact r'.own L b0 hg)
        exact ⟨this blk hfold, b0, hg⟩) (fun L blk hL hT hNn => by
        have hs : ¬ setsE (o, e) L = true := fun h => by
          rcases sets_iff.1 h with h | h
          · exact hT (by rw [← eT]; exact h)
          · exact hNn (by rw [← eN]; exact h)
        obtain ⟨hLl, hfold⟩ := heapL_get.1 hL
        rw [hins L hs] at hfold
        have hq := qH L
        cases hx : foldK kO (fun j => listed.getD j false) 0 (z.map (evH L)) ((σ.h[L]?).join) with
        | none => rw [hx] at hfold; cases hfold
        | some b0 =>
          rw [hx] at hfold hq
          refine ⟨b0, heapL_get.2 ⟨hLl, hx⟩, ?_⟩
          rw [killB_app]
          have h1 : killB [] (entE (o, e)).N b0 = b0 := Option.some.inj hq
          rw [eN] at h1
          rw [h1]
          exact (Option.some.inj hfold).symm)
      exact ih _ _ _ hcount (next _ ok' u w' (by rw [eN]; exact g2) r2 (RepV.mono0 up (fun _ h => h) (fun _ _ _ => rfl) (fun _ _ _ _ h => h) _ hv))
    have skip : e.run = false → InvW w0 ok0 rr wS ρx σ ops z σE.h.length (listed.setIfInBounds i true) (a.put o.dst undef) w := fun hrun => by
      obtain ⟨h1, h2⟩ := hst.no hrun
      simp only at h1 h2
      have hN0 : (entE (o, e)).N = [] := by unfold entE; rw [if_neg (by simp [hrun])]
      have hT0 : (entE (o, e)).T = [] := by unfold entE; rw [if_neg (by simp [hrun])]
      refine next m ok undef w (by rw [h2, hN0]; exact grow_kill [] m ok w) ?_ (by rw [h1]; exact undef_rep _ _ _)
      have : (heapL σ z σE.h.length fun j => if j = i then true else listed.getD j false) = heapL σ z σE.h.length fun j => listed.getD j false := by
        unfold heapL
        refine List.map_congr_left fun L _ => ?_
        have hno : ¬ setsE (o, e) L = true := fun h => by
          rcases sets_iff.1 h with h | h
          · rw [hT0] at h; cases h
          · rw [hN0] at h; cases h
        rw [hins L hno, h2]
        cases foldK kO (fun j => listed.getD j false) 0 (z.map (evH L)) ((σ.h[L]?).join) with
        | none => rfl
        | some b => simp [kO, killB_nil]
      rw [this]; exact r
    have lookY : ∀ j x, (o.guard.map Prod.fst) = some j → yieldA ops e.σ j = x → x ≠ .junk → namesV x = [] → ∃ d, (ops[j]?).bind (·.dst) = some d ∧ RepV m ok w x (a.tmps.getD d undef) := fun j x hg hy hx hnx => by
      unfold yieldA at hy
      split at hy
      · rename_i d hd
        have := look d (by
          unfold names Oper.looksAt
          obtain ⟨g, hg1, hg2⟩ := Option.map_eq_some_iff.1 hg
          obtain ⟨gj, gw⟩ := g
          simp only at hg2
          subst hg2
          simp [hg1, hd]) fun j' p' _ _ _ L hL => by rw [hy, hnx] at hL; cases hL
        have hdn : d < σ.n := by
          rw [Option.bind_eq_some_iff] at hd
          obtain ⟨o2, q1, q2⟩ := hd
          have q3 := hds o2 (by simpa using Array.mem_of_getElem? q1)
          simp only [opsLt, Bool.and_eq_true] at q3
          rw [q2] at q3
          simpa [dstLt] using q3.1
        unfold valX at this
        rw [if_pos hdn, hy] at this
        exact ⟨d, hd, this⟩
      · exact absurd hy.symm hx
    have hgd := hst.guard
    unfold guardE at hgd
    unfold wpOpIn
    simp only [ho]
    simp only at hgd
    split at hgd
    · rename_i hg
      rw [if_pos (by simp [Region.wanted, hg])]
      exact exec hgd
    · rename_i j want hg
      rcases hgd with ⟨b, hy, hrun⟩ | ⟨hy, hrun⟩
      · have hyy : yielded ops a.tmps j = some b := by
          obtain ⟨d, hd, this⟩ := lookY j _ (by rw [hg]; rfl) hy (by simp) rfl
          simp only [RepV] at this
          unfold yielded
          rw [hd]
          simp only [Option.bind_some]
          have hne : a.tmps[d]? = some (.bool b) := by
            rw [Array.getD_eq_getD_getElem?] at this
            cases hq : a.tmps[d]? with
            | none => rw [hq] at this; simp [undef] at this
            | some x => rw [hq] at this; simp at this; rw [this]
          rw [hne]
        by_cases hb : b = want
        · rw [if_pos (by simp [Region.wanted, hg, hyy, hb])]
          exact exec (by rw [hrun, hb]; simp)
        · rw [if_neg (by simp [Region.wanted, hg, hyy, hb])]
          exact ⟨fun _ _ => trivial, ih _ _ _ hcount (skip (by rw [hrun]; simpa using hb))⟩
      · have hyy : yielded ops a.tmps j = none := by
          obtain ⟨d, hd, vs', hv', _⟩ := lookY j _ (by rw [hg]; rfl) hy (by simp) rfl
          unfold yielded
          rw [hd]
          simp only [Option.bind_some]
          cases hq : a.tmps[d]? with
          | none => rfl
          | some x =>
            rw [Array.getD_eq_getD_getElem?, hq] at hv'
            simp at hv'
            rw [hv']
        rw [if_neg (by simp [Region.wanted, hg, hyy])]
        exact ⟨fun _ _ => trivial, ih _ _ _ hcount (skip hrun)⟩
end

end Go.Proofs.Ytgjamefpphhobaa.Eng
