/- The reference's 'Same'. -/
import Derived.Test.YtpgkgagmdjhojaaDigOpen
namespace Go.Proofs.Ytpgkgagmdjhojaa.DigSame
set_option linter.unusedVariables false
open Go.RowKit Go.Proofs.Ytpgkgagmdjhojaa.DigMul Go.Proofs.Ytpgkgagmdjhojaa.DigExt Go.Proofs.Ytpgkgagmdjhojaa.DigSeal Go.Proofs.Ytpgkgagmdjhojaa.DigOpen

theorem convert_lies {w : World} {A : Option Addr} {B n cap : Nat} {xs : List Int} (h : Lies w .u8 B A xs) (hn : xs.length = n) :
    (convert 22 9 (.slice A n cap)).run Try.prog w = .ok (.string (strOfNums xs)) w := by
  by_cases h0 : 0 < xs.length
  · obtain ⟨ad, rfl, hlt, hc⟩ := h h0
    obtain ⟨b, o, spot⟩ := ad
    have hs : spot = none := by
      have := World.cell?_spot (hc 0 h0)
      simpa [Addr.add] using this
    subst hs
    refine run_convert_bytes_arg w 22 5 Try.underlying22 Try.underlying5 b o n cap xs hn (fun i hi => ?_) 9 Try.underlying9
    have := hc i (by omega)
    rwa [add_plain] at this
  · have hx : xs = [] := List.eq_nil_of_length_eq_zero (by omega)
    subst hx
    subst hn
    exact Go.Proofs.run_convert_bytes_zero w 22 5 Try.underlying22 Try.underlying5 A cap 9 Try.underlying9

set_option maxHeartbeats 1000000 in
theorem same_raw (A1 A2 : Option Addr) (B1 B2 n c m d : Nat) (xs ys : List Int) (w : World) (h1 : Lies w .u8 B1 A1 xs) (h2 : Lies w .u8 B2 A2 ys) (hx : xs.length = n) (hy : ys.length = m) :
    Calls Try.prog 17 #[.slice A1 n c, .slice A2 m d] w fun e w' => e = .returned (.bool ((strOfNums xs).toList == (strOfNums ys).toList)) ∧ Below w.heap.size w w' := by
  have c1 := convert_lies (cap := c) h1 hx
  have c2 := convert_lies (cap := d) h2 hy
  clear h1 h2 hx hy
  go_enter Try.func17, Try.ntmps17
  go_wp2
  go_ret
  exact ⟨rfl, Below.refl _ _⟩

theorem same_any (A1 A2 : Option Addr) (B1 B2 n c m d : Nat) (xs ys : List Int) (w : World) (h1 : Lies w .u8 B1 A1 xs) (h2 : Lies w .u8 B2 A2 ys) (bx : Bytes xs) (by' : Bytes ys) (hx : xs.length = n) (hy : ys.length = m) :
    Calls Try.prog 17 #[.slice A1 n c, .slice A2 m d] w fun e w' => e = .returned (.bool (decide (xs = ys))) ∧ Below w.heap.size w w' := by
  refine (same_raw A1 A2 B1 B2 n c m d xs ys w h1 h2 hx hy).mono ?_
  rintro e w' ⟨rfl, b⟩
  refine ⟨?_, b⟩
  rw [Lib.strOfNums_toList, Lib.strOfNums_toList, bytes_eq bx by']

end Go.Proofs.Ytpgkgagmdjhojaa.DigSame
