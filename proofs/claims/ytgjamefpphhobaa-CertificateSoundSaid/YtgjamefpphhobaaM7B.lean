/- Sums of the reference. -/
import Derived.Test.YtgjamefpphhobaaM7A
namespace Go.Proofs.Ytgjamefpphhobaa.M7B
open Go Go.Proofs.Ytgjamefpphhobaa.Eng Go.Proofs.Ytgjamefpphhobaa Go.RowKit Go.Proofs.Ytgjamefpphhobaa.LM Go.Proofs.Ytgjamefpphhobaa.PK Go.Proofs.Ytgjamefpphhobaa.D7P Go.Proofs.Ytgjamefpphhobaa.D7R Go.Proofs.Ytgjamefpphhobaa.M7A
set_option linter.unusedSimpArgs false
set_option linter.unusedVariables false
set_option linter.unusedSectionVars false
set_option maxRecDepth 100000

abbrev Fc := Bool × (Int × List Tm)
def okM (f : Fc) (m : Int) : Bool := decide (-1000000000 ≤ m) && (decide (m ≤ 1000000000) && (decide (0 ≤ m) || f.1))
def oks : List Fc → List Int → Bool
  | f :: fs, m :: ms => okM f m && oks fs ms
  | _, _ => true
def comb : List Fc → List Int → Int × List Tm → Int × List Tm
  | f :: fs, m :: ms, l => comb fs ms (if m = 0 then l else timesE l f.2 m)
  | _, _, l => l
def valids (fs : List Fc) : Prop := ∀ f ∈ fs, validE f.2.1 f.2.2 = true
end Go.Proofs.Ytgjamefpphhobaa.M7B
