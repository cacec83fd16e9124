/- Arrays of bools and of integers that came in as parameters. -/
import Derived.Test.YtgjamefpphhobaaLaw
import Derived.ChangeArms
namespace Go.Proofs.Ytgjamefpphhobaa
open Go.RowKit Go.WideShapes Go.ChangeShapes

section
variable {H : Type} {enc : TypeId × Value → H} {P : Program}

end
end Go.Proofs.Ytgjamefpphhobaa
