/- Finding a primitive in the table. -/
import Derived.Test.YtdhpmkaggojgbaaDoorBase
import Derived.Test.YtdhpmkaggojgbaaDoorElemTable
import Derived.WalkSpells
import Derived.WalkLawsBesides
import Derived.Laws.EntriesVeiled
import Derived.Deep.QuietTactic
import Derived.BigQuiet
import Derived.Outline
namespace Go.Proofs.YtdhpmkaggojgbaaDoor.ElemFind
set_option linter.unusedVariables false
open Go.RowKit Go.Proofs.YtdhpmkaggojgbaaDoor.ElemTable

/-- A row of the table as a value. -/
def rowV (n a b c r : ByteArray) : Value := .agg #[.string n, .string a, .string b, .string c, .string r]

theorem same_any (n a b c r op : ByteArray) (g : Nat) (w : World) (hc : w.cell? ⟨g, 0, none⟩ = some (.string op)) :
    Calls Tryd.prog 32 #[rowV n a b c r, .pointer (some ⟨g, 0, none⟩)] w fun e w' => e = .returned (.bool (n.toList == op.toList)) ∧ Below w.heap.size w w' := by
  have hg : g < w.heap.size := by
    rcases Nat.lt_or_ge g w.heap.size with h | h
    · exact h
    · unfold World.cell? at hc; rw [Array.getElem?_eq_none h] at hc; cases hc
  unfold rowV
  go_enter Tryd.func32, Tryd.ntmps32
  go_wp2
  go_ret
  exact ⟨rfl, by go_grown⟩

theorem tab_lt {w : World} (h : Tab w) : 0 < w.heap.size := by
  have hc := h 0 0 (by decide) (by decide)
  rcases Nat.lt_or_ge 0 w.heap.size with h1 | h1
  · exact h1
  · unfold World.cell? at hc; rw [Array.getElem?_eq_none h1] at hc; cases hc

theorem tab_below {w w' : World} (h : Tab w) (hb : Below w.heap.size w w') : Tab w' := fun i j hi hj =>
  (hb.cell (p := ⟨0, 5 * i + j, none⟩) (tab_lt h)).trans (h i j hi hj)

theorem tab_cells {w : World} (h : Tab w) (i : Nat) (hi : i < 22) :
    w.cell? ⟨0, i * 5, none⟩ = some (.string (str i 0)) ∧ w.cell? ⟨0, i * 5 + 1, none⟩ = some (.string (str i 1)) ∧ w.cell? ⟨0, i * 5 + 2, none⟩ = some (.string (str i 2)) ∧ w.cell? ⟨0, i * 5 + 3, none⟩ = some (.string (str i 3)) ∧ w.cell? ⟨0, i * 5 + 4, none⟩ = some (.string (str i 4)) := by
  rw [Nat.mul_comm i 5]
  exact ⟨h i 0 hi (by decide), h i 1 hi (by decide), h i 2 hi (by decide), h i 3 hi (by decide), h i 4 hi (by decide)⟩

/-- The row at place i, as a value. -/
def rowAt (i : Nat) : Value := rowV (str i 0) (str i 1) (str i 2) (str i 3) (str i 4)

set_option maxHeartbeats 1000000 in
theorem index_at (op : ByteArray) (g k : Nat) (w : World) (ht : Tab w) (hk : k < 22) (hg : g < w.heap.size) (hc : w.cell? ⟨g, 0, none⟩ = some (.string op)) (hne : ∀ i, i < k → ((str i 0).toList == op.toList) = false) (he : ((str k 0).toList == op.toList) = true) :
    Calls Tryd.prog 31 #[.slice (some ⟨0, 0, none⟩) 22 22, .func (.func 32) #[] #[.pointer (some ⟨g, 0, none⟩)]] w fun e w' => e = .returned (.int .i64 k) ∧ Below w.heap.size w w' := by
  have HT := Lib.hid ht
  have HC := Lib.hid hc
  have HNE := Lib.hid hne
  have HE := Lib.hid he
  clear ht hc hne he
  go_enter Tryd.func31, Tryd.ntmps31
  go_wp2
  go_loopw [8] (fun s8 wr => ∃ i : Nat, i ≤ k ∧ s8 = .int .i64 i ∧ Below w.heap.size w wr) (fun s8 _ => 22 - (intOf s8).toNat)
  case atStart => exact ⟨0, Nat.zero_le _, rfl, Below.refl _ _⟩
  case round =>
    obtain ⟨i, hi, rfl, hB⟩ := hrel
    have HB := Lib.hid hB
    have hi2 : i < 22 := by omega
    obtain ⟨c0, c1, c2, c3, c4⟩ := tab_cells (tab_below HT.out hB) i hi2
    have cop : wr.cell? ⟨g, 0, none⟩ = some (.string op) := (hB.cell (p := ⟨g, 0, none⟩) hg).trans HC.out
    have HS := Lib.hid (same_any (str i 0) (str i 1) (str i 2) (str i 3) (str i 4) op g wr cop)
    clear hB cop
    by_cases hlt : i < k
    · have hn := HNE.out i hlt
      rw [hn] at HS
      unfold rowV at HS
      generalize str i 0 = s0 at *
      generalize str i 1 = s1 at *
      generalize str i 2 = s2 at *
      generalize str i 3 = s3 at *
      generalize str i 4 = s4 at *
      clear hn
      go_wp2_with (fail)
      refine HS.out.mono ?_
      rintro e w1 ⟨rfl, b1⟩
      have HB1 := Lib.hid (HB.out.trans (b1.mono HB.out.size))
      clear b1
      go_wp2
      go_roundw
      case rel => exact ⟨i + 1, by omega, by go_num, HB1.out⟩
      case measure => simp [intOf]; omega
    · obtain rfl : i = k := by omega
      have hn := HE.out
      rw [hn] at HS
      unfold rowV at HS
      generalize str i 0 = s0 at *
      generalize str i 1 = s1 at *
      generalize str i 2 = s2 at *
      generalize str i 3 = s3 at *
      generalize str i 4 = s4 at *
      clear hn
      go_wp2_with (fail)
      refine HS.out.mono ?_
      rintro e w1 ⟨rfl, b1⟩
      have HB1 := Lib.hid (HB.out.trans (b1.mono HB.out.size))
      clear b1
      go_wp2
      go_ret
      exact ⟨rfl, HB1.out⟩

set_option maxHeartbeats 1000000 in
theorem find_at (op : ByteArray) (k : Nat) (w : World) (ht : Tab w) (hk : k < 22) (hne : ∀ i, i < k → ((str i 0).toList == op.toList) = false) (he : ((str k 0).toList == op.toList) = true) :
    Calls Tryd.prog 26 #[.string op] w fun e w' => e = .returned (.tuple #[rowAt k, .bool true]) ∧ Below w.heap.size w w' := by
  have HI := Lib.hid (fun (g : Nat) (w1 : World) (ht1 : Tab w1) (hg : g < w1.heap.size) (hc : w1.cell? ⟨g, 0, none⟩ = some (.string op)) => index_at op g k w1 ht1 hk hg hc hne he)
  have HT := Lib.hid ht
  have hz := tab_lt ht
  clear hne he ht
  go_enter Tryd.func26, Tryd.ntmps26
  go_wp2_with (fail)
  refine (HI.out w.heap.size _ (tab_below HT.out (by go_grown)) (by go_size) (by go_cell)).mono ?_
  rintro e w1 ⟨rfl, b1⟩
  have B1 := Lib.hid b1
  have hz1 := b1.size
  obtain ⟨c0, c1, c2, c3, c4⟩ := tab_cells (tab_below (tab_below HT.out (by go_grown)) b1) k hk
  have e0 : w1.cell? ⟨w.heap.size + 1, 0, none⟩ = some (.string ⟨#[]⟩) := by rw [b1.cell (p := ⟨w.heap.size + 1, 0, none⟩) (by go_size)]; go_cell
  have e1 : w1.cell? ⟨w.heap.size + 1, 1, none⟩ = some (.string ⟨#[]⟩) := by rw [b1.cell (p := ⟨w.heap.size + 1, 1, none⟩) (by go_size)]; go_cell
  have e2 : w1.cell? ⟨w.heap.size + 1, 2, none⟩ = some (.string ⟨#[]⟩) := by rw [b1.cell (p := ⟨w.heap.size + 1, 2, none⟩) (by go_size)]; go_cell
  have e3 : w1.cell? ⟨w.heap.size + 1, 3, none⟩ = some (.string ⟨#[]⟩) := by rw [b1.cell (p := ⟨w.heap.size + 1, 3, none⟩) (by go_size)]; go_cell
  have e4 : w1.cell? ⟨w.heap.size + 1, 4, none⟩ = some (.string ⟨#[]⟩) := by rw [b1.cell (p := ⟨w.heap.size + 1, 4, none⟩) (by go_size)]; go_cell
  have f0 : w1.frozen? ⟨w.heap.size + 1, 0, none⟩ = false := by rw [b1.frozen (p := ⟨w.heap.size + 1, 0, none⟩) (by go_size)]; go_cell
  have f1 : w1.frozen? ⟨w.heap.size + 1, 1, none⟩ = false := by rw [b1.frozen (p := ⟨w.heap.size + 1, 1, none⟩) (by go_size)]; go_cell
  have f2 : w1.frozen? ⟨w.heap.size + 1, 2, none⟩ = false := by rw [b1.frozen (p := ⟨w.heap.size + 1, 2, none⟩) (by go_size)]; go_cell
  have f3 : w1.frozen? ⟨w.heap.size + 1, 3, none⟩ = false := by rw [b1.frozen (p := ⟨w.heap.size + 1, 3, none⟩) (by go_size)]; go_cell
  have f4 : w1.frozen? ⟨w.heap.size + 1, 4, none⟩ = false := by rw [b1.frozen (p := ⟨w.heap.size + 1, 4, none⟩) (by go_size)]; go_cell
  have hz2 : w.heap.size + 1 < w1.heap.size := by simp at hz1; omega
  have hr : rowAt k = rowV (str k 0) (str k 1) (str k 2) (str k 3) (str k 4) := rfl
  have HR := Lib.hid hr
  clear b1 hz1 hr
  generalize str k 0 = s0 at *
  generalize str k 1 = s1 at *
  generalize str k 2 = s2 at *
  generalize str k 3 = s3 at *
  generalize str k 4 = s4 at *
  go_wp2
  refine bodyPost_ret (v := .tuple #[.agg #[.string s0, .string s1, .string s2, .string s3, .string s4], .bool true]) (by simp [results, Tryd.results26, go_sem, e0, e1, e2, e3, e4]) rfl ⟨by rw [HR.out]; rfl, ?_⟩
  have hb0 := B1.out
  have hb : Below w.heap.size w w1 := bt (by go_grown) hb0
  go_grown

end Go.Proofs.YtdhpmkaggojgbaaDoor.ElemFind
