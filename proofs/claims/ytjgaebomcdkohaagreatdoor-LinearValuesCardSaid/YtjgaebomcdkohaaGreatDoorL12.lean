/- Linear expressions: what the library does: numerals, sorted keys. -/
import Derived.Test.YtjgaebomcdkohaaGreatDoorL11
import Derived.Test.YtjgaebomcdkohaaGreatDoorLib
import Derived.Lib.AtoiErrMem
namespace Go.Proofs.YtjgaebomcdkohaaGreatDoor.L12
open Go Go.Proofs.YtjgaebomcdkohaaGreatDoor.Eng Go.Proofs.YtjgaebomcdkohaaGreatDoor Go.RowKit Go.Maps Go.Proofs.YtjgaebomcdkohaaGreatDoor.L1 Go.Proofs.YtjgaebomcdkohaaGreatDoor.L2 Go.Proofs.YtjgaebomcdkohaaGreatDoor.L3 Go.Proofs.YtjgaebomcdkohaaGreatDoor.L4 Go.Proofs.YtjgaebomcdkohaaGreatDoor.L5 Go.Proofs.YtjgaebomcdkohaaGreatDoor.L6 Go.Proofs.YtjgaebomcdkohaaGreatDoor.L7 Go.Proofs.YtjgaebomcdkohaaGreatDoor.L8 Go.Proofs.YtjgaebomcdkohaaGreatDoor.L9 Go.Proofs.YtjgaebomcdkohaaGreatDoor.L10 Go.Proofs.YtjgaebomcdkohaaGreatDoor.L11
set_option linter.unusedSimpArgs false
set_option linter.unusedVariables false
set_option linter.unusedSectionVars false
set_option maxRecDepth 100000

theorem dig_val {b : UInt8} (h : digI b.toNat = true) : Lib.digitVal b = some (b.toNat - 48) := by
  unfold Lib.digitVal
  rw [if_pos]
  simp [digI] at h
  omega
theorem decFrom_num : ∀ (l : List UInt8) (acc : Nat), (∀ b ∈ l, digI b.toNat = true) → ∃ n, Lib.decFrom acc l = some n ∧ (n : Int) = l.foldl (fun (n : Int) (b : UInt8) => 10 * n + (b.toNat - 48)) (acc : Int)
  | [], acc, _ => ⟨acc, rfl, rfl⟩
  | b :: r, acc, h => by
    have hb := h b List.mem_cons_self
    obtain ⟨n, h1, h2⟩ := decFrom_num r (acc * 10 + (b.toNat - 48)) fun x hx => h x (List.mem_cons_of_mem _ hx)
    refine ⟨n, by rw [Lib.decFrom, dig_val hb]; exact h1, ?_⟩
    rw [h2, List.foldl_cons]
    congr 1
    simp [digI] at hb
    have : ((b.toNat - 48 : Nat) : Int) = (b.toNat : Int) - 48 := by omega
    push_cast
    omega
theorem atoi_num (l : List UInt8) (h0 : 0 < l.length) (hd : ∀ b ∈ l, digI b.toNat = true) : Lib.atoi l = some (numE l) := by
  cases l with
  | nil => simp at h0
  | cons b r =>
    have hb := hd b List.mem_cons_self
    simp [digI] at hb
    obtain ⟨n, h1, h2⟩ := decFrom_num (b :: r) 0 hd
    simp only [Lib.atoi]
    rw [if_neg (by intro h; have := eq_of_beq h; subst this; simp at hb), if_neg (by intro h; have := eq_of_beq h; subst this; simp at hb)]
    rw [Lib.decNat, if_neg (by simp), h1]
    simp [numE, h2]
theorem atoiOk : AtoiOk := fun l h0 h7 hd => by
  refine ⟨enters_of Tryz.func124 (by kernel_rfl) rfl, fun ok w vs hok hv => ?_⟩
  obtain ⟨u, us, rfl, hu, rfl⟩ := hv
  obtain rfl : u = .string (ofL l) := hu
  refine (strconv_Atoi (ofL l) (numE l) (by rw [ofL_size]; omega) (by rw [show (ofL l).data.toList = l from rfl]; exact atoi_num l h0 hd) w).mono ?_
  rintro e w' ⟨rfl, t, rfl⟩
  exact ⟨_, rfl, ⟨_, rfl, _, _, rfl, rfl, _, _, rfl, rfl, rfl⟩, Lib.bytesWorld_below w 5 t⟩

theorem sortsA (m : Nat) : AnyZ.SortsIn Tryz.prog sortedA_ren Fence.wide m :=
  ⟨fun blk off cap ss W hH hblk hsz => callsIn_wide.2 (AnyM.slices_Sort_string sortA blk off cap ss W hH hblk hsz),
   fun p cap W => callsIn_wide.2 (AnyM.slices_Sort_string_none sortA p cap W)⟩
theorem ksP : KS := by
  refine ⟨enters_of Tryz.func85 (by kernel_rfl) rfl, ?_⟩
  intro B b l clock w hB hb hst hsz ks hks hlen
  have hBw : B < w.heap.size := World.block_lt_of_cell? _ _ hB
  have hread : ∀ x ∈ l.toList, ∃ k ∈ ks, x.key = encStr k := fun x hx => by
    have := List.mem_map_of_mem (f := (·.key)) hx
    rw [hks] at this
    obtain ⟨k, hk, e⟩ := List.mem_map.1 this
    exact ⟨k, hk, e.symm⟩
  let R : Value → Option (DataW Unit × List MemPlace) := fun _ => some (.nil, [])
  have hrd : ∀ x ∈ l.toList, ∀ k, k ∈ ks → x.key = encStr k → WideElems.rd Tryz.prog 9 R x = some (.string k, .nil) := fun x hx k hk e => by
    have h1 : mapKey Tryz.prog 9 (encStr k) = some (.string k) := by
      unfold mapKey
      rw [show Tryz.prog.underlying 9 = some .string from rfl]
      simp only [encStr]
      rw [if_pos (by simpa [ByteArray.size] using hlen k hk)]
    unfold WideElems.rd
    rw [e, keyOf_of_mapKey h1]
    rfl
  have hfit : WideElems.Fit Tryz.prog 9 R l clock := ⟨by unfold maxLen; omega, hst, fun x hx => by
    obtain ⟨k, hk, e⟩ := hread x hx
    exact ⟨_, hrd x hx k hk e⟩⟩
  have hown : w.ownsMap Tryz.prog 9 R b l.size (.map ((l.toList.map (WideElems.rg Tryz.prog 9 R)).foldr DataW.insert [])) := ⟨l, clock, hb, hfit, Nat.le_refl _, rfl⟩
  have hperm : (strKeys (.map ((l.toList.map (WideElems.rg Tryz.prog 9 R)).foldr DataW.insert []))).Perm ks := by
    refine ((WideShapes.sorted_perm _).map _).trans (.of_eq ?_)
    rw [List.map_map]
    have : ks = (ks.map encStr).map fun v => match v with | .string s => s.data.toList | _ => [] := by
      rw [List.map_map]
      exact (List.map_id'' (fun _ => rfl) _).symm
    rw [this, ← hks, List.map_map]
    refine List.map_congr_left fun x hx => ?_
    obtain ⟨k, hk, e⟩ := hread x hx
    simp only [Function.comp, WideElems.rg_of (hrd x hx k hk e), e, strOf]
  have hn : Maps.size (.map ((l.toList.map (WideElems.rg Tryz.prog 9 R)).foldr DataW.insert [])) = l.size := by
    rw [Maps.size_eq, (WideShapes.sorted_perm _).length_eq]; simp
  have hseq := AnyZ.keys_gives (ρ := keysA_ren) { keysA with } Fence.wide 2 trivial rfl (by omega) B b l.size _ w hBw hB hown
  have cS := AnyZ.sorted_in sortedA Fence.wide 5 trivial trivial trivial trivial rfl (by omega) (sortsA _) (enters_of Tryz.func116 (by kernel_rfl) rfl) 117 #[.pointer (some ⟨B, 0, none⟩)] trivial (enters_of Tryz.func117 (by kernel_rfl) rfl) _ _ (by rw [hn]; unfold maxLen; omega) (by rw [hn]; exact hsz) w hseq
  refine (callsIn_wide.1 cS).mono ?_
  rintro e w' ⟨v, ss, rfl, hS, hrow, _, hbel⟩
  have hp : ss.Perm ks := hS.trans hperm
  refine ⟨v, sortedA_ren.t 26, rfl, ?_, hbel⟩
  rw [← hp.length_eq, ← mergeSort_of_perm hp]
  exact hrow

end Go.Proofs.YtjgaebomcdkohaaGreatDoor.L12
