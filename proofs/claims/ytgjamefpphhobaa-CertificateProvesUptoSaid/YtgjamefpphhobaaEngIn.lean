/- What comes in as a parameter, as the walk over values knows it. -/
import Derived.Test.YtgjamefpphhobaaFields
import Derived.Test.YtgjamefpphhobaaEng
import Derived.Deep.Strs
import Derived.Test.YtgjamefpphhobaaStructs
namespace Go.Proofs.Ytgjamefpphhobaa
set_option linter.unusedVariables false
open Go.RowKit Go.WideShapes Go.ChangeShapes Go.Proofs.Ytgjamefpphhobaa.Eng

section
variable {H : Type} {enc : TypeId × Value → H} {P : Program}

theorem spot_none {w : World} {a : Addr} {v : Value} (h : w.cell? a = some v) : a.spot = none := by
  unfold World.cell? at h
  split at h
  · split at h
    · cases h
    · rename_i hs
      simpa using hs
  · cases h

end

end Go.Proofs.Ytgjamefpphhobaa
