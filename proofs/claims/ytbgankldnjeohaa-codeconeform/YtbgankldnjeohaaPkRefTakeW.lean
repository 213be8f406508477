/- The walks of the document's TakeNum. -/
import Derived.Test.YtbgankldnjeohaaPkTakeW
set_option linter.unusedVariables false
set_option maxRecDepth 100000
namespace Go.Proofs.Ytbgankldnjeohaa.Pk
open Go.RowKit
open PackMath (tn go)

end Go.Proofs.Ytbgankldnjeohaa.Pk