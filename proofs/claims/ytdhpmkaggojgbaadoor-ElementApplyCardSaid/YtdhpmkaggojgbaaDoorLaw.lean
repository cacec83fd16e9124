/- The end of a law's proof whatever the make of its parameters: what came in reads as it did, and what slices of integers hold. -/
import Derived.Test.YtdhpmkaggojgbaaDoorBase
import Derived.Carry
import Derived.ChangeSlices
import Derived.ChangeMaps5
namespace Go.Proofs.YtdhpmkaggojgbaaDoor
open Go.RowKit Go.WideShapes Go.ChangeShapes Go.ChangeMaps

section
variable {H : Type} {enc : TypeId × Value → H} {P : Program}

/-- Arguments read behind a call that only makes new memory as they read before. -/
theorem allStay (hl : laidOutB P = true) {W W' : World} (hb : Below W.heap.size W W') : ∀ {ts : List TypeId} {vs : List Value} {ds : List (DataW H)} {ps : List MemPlace}, (∀ t ∈ ts, P.readableRec t = true ∧ t < P.types.size) →
    DataW.TrodAll enc P W 0 (fun _ => true) true ts vs ds ps → (∀ p ∈ ps, p.block < W.heap.size) → ∀ sp : Nat → Bool, (∀ p ∈ ps, sp p.block = true) → DataW.TrodAll enc P W' 0 sp true ts vs ds ps
  | [], [], [], _, _, h, _, _, _ => h
  | [], _ :: _, _, _, _, h, _, _, _ => h.elim
  | [], [], _ :: _, _, _, h, _, _, _ => h.elim
  | _ :: _, [], _, _, _, h, _, _, _ => h.elim
  | _ :: _, _ :: _, [], _, _, h, _, _, _ => h.elim
  | t :: ts, v :: vs, d :: ds, ps, hr, h, hlt, sp, hsp => by
    obtain ⟨p, q, h1, h2, rfl⟩ := h
    have ht := hr t (by simp)
    refine ⟨p, q, WideElems.Trod_stays hl ht.1 ht.2 h1 (fun x hx => hb.same (hlt x (by simp [hx]))) (fun x hx => hsp x (by simp [hx])), ?_, rfl⟩
    exact allStay hl hb (fun t' ht' => hr t' (by simp [ht'])) h2 (fun x hx => hlt x (by simp [hx])) sp (fun x hx => hsp x (by simp [hx]))

theorem cell_lt {w : World} {a : Addr} {v : Value} (h : w.cell? a = some v) : a.block < w.heap.size := by
  rcases Nat.lt_or_ge a.block w.heap.size with hlt | hge
  · exact hlt
  · unfold World.cell? at h
    rw [Array.getElem?_eq_none hge] at h
    cases h

/-- A slice of integers that came in. -/
theorem comesIn {t e : TypeId} {k : IntKind} {w : World} {r : Reach} {b0 : Nat} {v : Value} {d : DataW H} {ps : List MemPlace} (ht : P.underlying t = some (.slice e)) (he : P.underlying e = some (.int k)) (hc : P.cellsOf e = 1)
    (hval : Value.okWide P w r b0 t v) (h : DataW.Trod enc P w 0 (fun _ => true) true t v d ps) :
    ∃ A cap zs, v = .slice A zs.length cap ∧ Lies w k w.heap.size A zs ∧ (∀ n ∈ zs, (Lit.int k n).wf = true) ∧ (zs.length ≤ cap ∧ cap ≤ maxLen) ∧ (A = none → cap = 0) := by
  obtain ⟨a0, len0, cap0, rfl⟩ := okWide_slice ht hval
  obtain ⟨fuel, hf⟩ := h
  rcases open_ints ht he hc hf with ⟨hcs, hx⟩ | ⟨a, len, cap, zs, hcs, _, hl, hm, hz, hx, hcell, hwz⟩
  · have hv : (Value.slice a0 len0 cap0) = .slice none 0 0 := by simpa [Value.cells] using hcs
    rw [hv]
    exact ⟨none, 0, [], rfl, fun h => by simp at h, fun _ h => (by cases h), ⟨by simp, by simp⟩, fun _ => rfl⟩
  · have hv : (Value.slice a0 len0 cap0) = .slice (some a) len cap := by simpa [Value.cells] using hcs
    have hlen : (zs.take len).length = len := by
      rw [List.length_take, hz, if_pos rfl]
      omega
    refine ⟨some a, cap, zs.take len, by rw [hlen]; exact hv, fun h0 => ⟨a, rfl, ?_, fun i hi => ?_⟩, fun n hn => hwz n (List.mem_of_mem_take hn), ⟨by rw [hlen]; exact hl, hm⟩, fun h => by cases h⟩
    · rw [hlen] at h0
      have := cell_lt (hcell 0 (by rw [hz, if_pos rfl]; omega))
      rw [block_add_of] at this
      exact this
    · rw [hlen] at hi
      rw [hcell i (by rw [hz, if_pos rfl]; omega)]
      have hi2 : i < zs.length := by rw [hz, if_pos rfl]; omega
      simp [List.getD, hi, hi2]
end

end Go.Proofs.YtdhpmkaggojgbaaDoor
