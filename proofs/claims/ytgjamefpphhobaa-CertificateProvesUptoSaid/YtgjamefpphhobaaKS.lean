/- What slices.Sorted(maps.Keys(m)) does. -/
import Derived.Test.YtgjamefpphhobaaEngD
import Derived.Test.YtgjamefpphhobaaTy
import Derived.Test.YtgjamefpphhobaaBase
import Derived.Test.YtgjamefpphhobaaLib
namespace Go.Proofs.Ytgjamefpphhobaa.KS
open Go Go.Proofs.Ytgjamefpphhobaa.Eng Go.Proofs.Ytgjamefpphhobaa Go.RowKit Go.Maps
set_option linter.unusedSimpArgs false
set_option linter.unusedVariables false
set_option linter.unusedSectionVars false
set_option maxRecDepth 100000

theorem sortsA (m : Nat) : AnyZ.SortsIn Try.prog sortedA_ren Fence.wide m :=
  ⟨fun blk off cap ss W hH hblk hsz => callsIn_wide.2 (AnyM.slices_Sort_string sortA blk off cap ss W hH hblk hsz),
   fun p cap W => callsIn_wide.2 (AnyM.slices_Sort_string_none sortA p cap W)⟩
theorem hks_slices_Sorted_string_maps_Keys_map_string_framewise_certificate_total_string_framewise_certificate_total_1 : KeysSorted Try.prog 85 101 := by
  refine ⟨enters_of Try.func85 (by kernel_rfl) rfl, ?_⟩
  intro B b l clock w hB hb hst hsz ks hks hlen
  have hBw : B < w.heap.size := World.block_lt_of_cell? _ _ hB
  have hread : ∀ x ∈ l.toList, ∃ k ∈ ks, x.key = encStr k := fun x hx => by
    have := List.mem_map_of_mem (f := (·.key)) hx
    rw [hks] at this
    obtain ⟨k, hk, e⟩ := List.mem_map.1 this
    exact ⟨k, hk, e.symm⟩
  let R : Value → Option (DataW Unit × List MemPlace) := fun _ => some (.nil, [])
  have hrd : ∀ x ∈ l.toList, ∀ k, k ∈ ks → x.key = encStr k → WideElems.rd Try.prog 9 R x = some (.string k, .nil) := fun x hx k hk e => by
    have h1 : mapKey Try.prog 9 (encStr k) = some (.string k) := by
      unfold mapKey
      rw [show Try.prog.underlying 9 = some .string from rfl]
      simp only [encStr]
      rw [if_pos (by simpa [ByteArray.size] using hlen k hk)]
    unfold WideElems.rd
    rw [e, keyOf_of_mapKey h1]
    rfl
  have hfit : WideElems.Fit Try.prog 9 R l clock := ⟨by unfold maxLen; omega, hst, fun x hx => by
    obtain ⟨k, hk, e⟩ := hread x hx
    exact ⟨_, hrd x hx k hk e⟩⟩
  have hown : w.ownsMap Try.prog 9 R b l.size (.map ((l.toList.map (WideElems.rg Try.prog 9 R)).foldr DataW.insert [])) := ⟨l, clock, hb, hfit, Nat.le_refl _, rfl⟩
  have hperm : (strKeys (.map ((l.toList.map (WideElems.rg Try.prog 9 R)).foldr DataW.insert []))).Perm ks := by
    refine ((WideShapes.sorted_perm _).map _).trans (.of_eq ?_)
    rw [List.map_map]
    have : ks = (ks.map encStr).map fun v => match v with | .string s => s.data.toList | _ => [] := by
      rw [List.map_map]
      exact (List.map_id'' (fun _ => rfl) _).symm
    rw [this, ← hks, List.map_map]
    refine List.map_congr_left fun x hx => ?_
    obtain ⟨k, hk, e⟩ := hread x hx
    simp only [Function.comp, WideElems.rg_of (hrd x hx k hk e), e, strOf]
  have hn : Maps.size (.map ((l.toList.map (WideElems.rg Try.prog 9 R)).foldr DataW.insert [])) = l.size := by
    rw [Maps.size_eq, (WideShapes.sorted_perm _).length_eq]; simp
  have hseq := AnyZ.keys_gives (ρ := keysA_ren) { keysA with } Fence.wide 2 trivial rfl (by omega) B b l.size _ w hBw hB hown
  have cS := AnyZ.sorted_in sortedA Fence.wide 5 trivial trivial trivial trivial rfl (by omega) (sortsA _) (enters_of Try.func100 (by kernel_rfl) rfl) 101 #[.pointer (some ⟨B, 0, none⟩)] trivial (enters_of Try.func101 (by kernel_rfl) rfl) _ _ (by rw [hn]; unfold maxLen; omega) (by rw [hn]; exact hsz) w hseq
  refine (callsIn_wide.1 cS).mono ?_
  rintro e w' ⟨v, ss, rfl, hS, hrow, _, hbel⟩
  have hp : ss.Perm ks := hS.trans hperm
  refine ⟨v, sortedA_ren.t 26, rfl, ?_, hbel⟩
  rw [← hp.length_eq, ← mergeSort_of_perm hp]
  exact hrow

theorem hks_slices_Sorted_string_maps_Keys_map_string_int_string_int_1 : KeysSorted Try.prog 85 111 := by
  refine ⟨enters_of Try.func85 (by kernel_rfl) rfl, ?_⟩
  intro B b l clock w hB hb hst hsz ks hks hlen
  have hBw : B < w.heap.size := World.block_lt_of_cell? _ _ hB
  have hread : ∀ x ∈ l.toList, ∃ k ∈ ks, x.key = encStr k := fun x hx => by
    have := List.mem_map_of_mem (f := (·.key)) hx
    rw [hks] at this
    obtain ⟨k, hk, e⟩ := List.mem_map.1 this
    exact ⟨k, hk, e.symm⟩
  let R : Value → Option (DataW Unit × List MemPlace) := fun _ => some (.nil, [])
  have hrd : ∀ x ∈ l.toList, ∀ k, k ∈ ks → x.key = encStr k → WideElems.rd Try.prog 9 R x = some (.string k, .nil) := fun x hx k hk e => by
    have h1 : mapKey Try.prog 9 (encStr k) = some (.string k) := by
      unfold mapKey
      rw [show Try.prog.underlying 9 = some .string from rfl]
      simp only [encStr]
      rw [if_pos (by simpa [ByteArray.size] using hlen k hk)]
    unfold WideElems.rd
    rw [e, keyOf_of_mapKey h1]
    rfl
  have hfit : WideElems.Fit Try.prog 9 R l clock := ⟨by unfold maxLen; omega, hst, fun x hx => by
    obtain ⟨k, hk, e⟩ := hread x hx
    exact ⟨_, hrd x hx k hk e⟩⟩
  have hown : w.ownsMap Try.prog 9 R b l.size (.map ((l.toList.map (WideElems.rg Try.prog 9 R)).foldr DataW.insert [])) := ⟨l, clock, hb, hfit, Nat.le_refl _, rfl⟩
  have hperm : (strKeys (.map ((l.toList.map (WideElems.rg Try.prog 9 R)).foldr DataW.insert []))).Perm ks := by
    refine ((WideShapes.sorted_perm _).map _).trans (.of_eq ?_)
    rw [List.map_map]
    have : ks = (ks.map encStr).map fun v => match v with | .string s => s.data.toList | _ => [] := by
      rw [List.map_map]
      exact (List.map_id'' (fun _ => rfl) _).symm
    rw [this, ← hks, List.map_map]
    refine List.map_congr_left fun x hx => ?_
    obtain ⟨k, hk, e⟩ := hread x hx
    simp only [Function.comp, WideElems.rg_of (hrd x hx k hk e), e, strOf]
  have hn : Maps.size (.map ((l.toList.map (WideElems.rg Try.prog 9 R)).foldr DataW.insert [])) = l.size := by
    rw [Maps.size_eq, (WideShapes.sorted_perm _).length_eq]; simp
  have hseq := AnyZ.keys_gives (ρ := keysB_ren) { keysB with } Fence.wide 2 trivial rfl (by omega) B b l.size _ w hBw hB hown
  have cS := AnyZ.sorted_in sortedA Fence.wide 5 trivial trivial trivial trivial rfl (by omega) (sortsA _) (enters_of Try.func100 (by kernel_rfl) rfl) 111 #[.pointer (some ⟨B, 0, none⟩)] trivial (enters_of Try.func111 (by kernel_rfl) rfl) _ _ (by rw [hn]; unfold maxLen; omega) (by rw [hn]; exact hsz) w hseq
  refine (callsIn_wide.1 cS).mono ?_
  rintro e w' ⟨v, ss, rfl, hS, hrow, _, hbel⟩
  have hp : ss.Perm ks := hS.trans hperm
  refine ⟨v, sortedA_ren.t 26, rfl, ?_, hbel⟩
  rw [← hp.length_eq, ← mergeSort_of_perm hp]
  exact hrow


end Go.Proofs.Ytgjamefpphhobaa.KS
