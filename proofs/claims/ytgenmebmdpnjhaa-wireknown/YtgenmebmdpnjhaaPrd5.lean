
/- Tests: what implies what: the contract of pred.Implies. -/
import Derived.Test.YtgenmebmdpnjhaaPrd4
namespace Go.Proofs.Ytgenmebmdpnjhaa
open Go.RowKit
set_option linter.unusedVariables false

end Go.Proofs.Ytgenmebmdpnjhaa
