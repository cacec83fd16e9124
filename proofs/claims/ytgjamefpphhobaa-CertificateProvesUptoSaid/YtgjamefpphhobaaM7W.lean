/- The example of the document holds. -/
import Derived.Test.YtgjamefpphhobaaD7L
namespace Go.Proofs.Ytgjamefpphhobaa.M7W
open Go Go.Proofs.Ytgjamefpphhobaa.Eng Go.Proofs.Ytgjamefpphhobaa Go.RowKit Go.Proofs.Ytgjamefpphhobaa.D7P Go.Proofs.Ytgjamefpphhobaa.D7R Go.Proofs.Ytgjamefpphhobaa.D7L
theorem awake_is : law07_awake = some true := by kernel_rfl
end Go.Proofs.Ytgjamefpphhobaa.M7W
