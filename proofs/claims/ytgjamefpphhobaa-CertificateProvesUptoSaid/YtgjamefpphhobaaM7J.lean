/- The laws on what certificates and cuts mean. -/
import Derived.Test.YtgjamefpphhobaaM7I
namespace Go.Proofs.Ytgjamefpphhobaa.M7J
open Go Go.Proofs.Ytgjamefpphhobaa.Eng Go.Proofs.Ytgjamefpphhobaa Go.RowKit Go.Proofs.Ytgjamefpphhobaa.LM Go.Proofs.Ytgjamefpphhobaa.PK Go.Proofs.Ytgjamefpphhobaa.D7P Go.Proofs.Ytgjamefpphhobaa.D7R Go.Proofs.Ytgjamefpphhobaa.D7L Go.Proofs.Ytgjamefpphhobaa.M7A Go.Proofs.Ytgjamefpphhobaa.M7B Go.Proofs.Ytgjamefpphhobaa.M7C Go.Proofs.Ytgjamefpphhobaa.M7D Go.Proofs.Ytgjamefpphhobaa.M7E Go.Proofs.Ytgjamefpphhobaa.M7F Go.Proofs.Ytgjamefpphhobaa.M7G Go.Proofs.Ytgjamefpphhobaa.M7H Go.Proofs.Ytgjamefpphhobaa.M7W Go.Proofs.Ytgjamefpphhobaa.M7I
set_option linter.unusedSimpArgs false
set_option linter.unusedVariables false
set_option linter.unusedSectionVars false
set_option maxRecDepth 100000

end Go.Proofs.Ytgjamefpphhobaa.M7J
