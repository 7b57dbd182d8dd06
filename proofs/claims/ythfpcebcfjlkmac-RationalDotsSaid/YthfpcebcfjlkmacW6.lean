/- Contracts of functions of the program, and what they lean on. -/
import Derived.Test.YthfpcebcfjlkmacW5
set_option linter.unusedSimpArgs false
set_option linter.unusedVariables false
namespace Go.Proofs.Ythfpcebcfjlkmac
open Go.RowKit
end Go.Proofs.Ythfpcebcfjlkmac
