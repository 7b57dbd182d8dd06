/- Contracts of functions of the program, and what they lean on. -/
import Derived.Test.YthfpcebcfjlkmaaW10
import Derived.Test.YthfpcebcfjlkmaaVa
set_option linter.unusedSimpArgs false
set_option linter.unusedVariables false
namespace Go.Proofs.Ythfpcebcfjlkmaa
open Go.RowKit
end Go.Proofs.Ythfpcebcfjlkmaa
