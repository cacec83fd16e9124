/- Small lemmas that every seat uses: growing step by step, and the end of a law's proof behind a call that only makes new memory. -/
import Derived.Test.YtgjamefpphhobaaRows
import Derived.WalkKit
import Derived.ProofKit
import Derived.OpenShut
import Derived.Below
import Derived.ChangeSame
import Derived.Lib.Hide
import Derived.Handy
import Derived.Deep.Draws
namespace Go.Proofs.Ytgjamefpphhobaa
open Go.RowKit Go.WideShapes Go.ChangeShapes

/-- A slice of integers that lies below block B and holds the numbers zs; of an empty one nothing is asked. -/
def Lies (w : World) (k : IntKind) (B : Nat) (A : Option Addr) (zs : List Int) : Prop :=
  0 < zs.length → ∃ ad : Addr, A = some ad ∧ ad.block < B ∧ ∀ i, i < zs.length → w.cell? (ad.add i) = some (.int k (zs.getD i 0))

theorem block_add_of (a : Addr) (n : Nat) : (a.add n).block = a.block := by unfold Addr.add; split <;> rfl

theorem Lies.below {w w' : World} {k : IntKind} {B : Nat} {A : Option Addr} {zs : List Int} (h : Lies w k B A zs) (hb : Below B w w') : Lies w' k B A zs := fun h0 => by
  obtain ⟨ad, e, hlt, hc⟩ := h h0
  exact ⟨ad, e, hlt, fun i hi => (hb.cell (by rw [block_add_of]; exact hlt)).trans (hc i hi)⟩

theorem Lies.more {w : World} {k : IntKind} {B B' : Nat} {A : Option Addr} {zs : List Int} (h : Lies w k B A zs) (hB : B ≤ B') : Lies w k B' A zs := fun h0 => by
  obtain ⟨ad, e, hlt, hc⟩ := h h0
  exact ⟨ad, e, Nat.lt_of_lt_of_le hlt hB, hc⟩

/-- The same slice in a world that has grown. -/
theorem Lies.later {w w' : World} {k : IntKind} {A : Option Addr} {zs : List Int} (h : Lies w k w.heap.size A zs) (hb : Below w.heap.size w w') : Lies w' k w'.heap.size A zs := (h.below hb).more hb.size

variable {H : Type} {enc : TypeId × Value → H} {P : Program}
/-- A law that only makes new memory leaves all as its row asks. -/
theorem endsBelow {f : Func} {s : ChangeSpec} {apart fresh handsOn again : Bool} {W W' : World} {args : Array Value} {v : Value} {ds gs : List (DataW H)} {before pa pv : List MemPlace}
    (hW : DataW.Whole enc P f.params.toList s.vars apart W args.toList ds gs before)
    (hres : ∀ (b : Nat) (sp : Nat → Bool) (hd : Bool), DataW.TrodAll enc P W' b sp hd f.resultTypes.toList (v.resultList f.resultTypes.size) (s.fn H (ds ++ gs)).results [])
    (hargs : ∀ sp : Nat → Bool, (∀ p ∈ before, sp p.block = true) → DataW.TrodAll enc P W' 0 sp true f.params.toList args.toList (s.fn H (ds ++ gs)).args pa)
    (hvars : ∀ sp : Nat → Bool, (∀ p ∈ before, sp p.block = true) → DataW.TrodVars enc P W' sp s.vars (s.fn H (ds ++ gs)).vars pv)
    (hps : before = pa ++ pv) (hb : Below W.heap.size W W')
    (hok : ∀ (j : Nat) (t : TypeId) (r : Value), f.resultTypes[j]? = some t → (v.resultList f.resultTypes.size)[j]? = some r → Value.okWide P W' .any 0 t r) :
    s.post enc P f apart fresh handsOn again W args v W' := by
  have inOld : ∀ p ∈ before, decide (p.block < W.heap.size) = true := fun p hp => decide_eq_true (hW.lt p hp)
  have keep : W.keptBut W' (· ∈ before) := hb.frame _
  refine ⟨ds, gs, before, [], pa, pv, hW, hres _ _ _, hargs (fun b => decide (b < W.heap.size)) inOld, hvars (fun b => decide (b < W.heap.size)) inOld, World.keptBut_mono (fun p hp => ⟨hp, Or.inr ?_⟩) keep, fun _ => ?_⟩
  · exact List.mem_append.1 (hps ▸ hp)
  · have hWhole := hW
    obtain ⟨_, _, _, _, _, hfz, hnd⟩ := hWhole
    refine ⟨hok, _, _, ([] ++ pa) ++ pv, ⟨[] ++ pa, pv, trodAll_append (hargs _ fun _ _ => rfl) (hres _ _ _), hvars _ fun _ _ => rfl, rfl, fun b off hp => ?_, fun ha => ?_⟩, fun p hp _ => ?_⟩
    · have hin : MemPlace.cell b off ∈ before := hps ▸ (by simpa using hp)
      exact (hb.frozen (p := ⟨b, off, none⟩) (hW.lt _ hin)).trans (hfz b off hin)
    · simpa [hps] using hnd ha
    · simpa [hps] using hp

end Go.Proofs.Ytgjamefpphhobaa
