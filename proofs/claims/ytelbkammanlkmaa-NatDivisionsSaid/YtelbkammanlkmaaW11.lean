/- Contracts of functions of the program, and what they lean on. -/
import Derived.Test.YtelbkammanlkmaaW10
import Derived.Test.YtelbkammanlkmaaVa
set_option linter.unusedSimpArgs false
set_option linter.unusedVariables false
namespace Go.Proofs.Ytelbkammanlkmaa
open Go.RowKit
end Go.Proofs.Ytelbkammanlkmaa
