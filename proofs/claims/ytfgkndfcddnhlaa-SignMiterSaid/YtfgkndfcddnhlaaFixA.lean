/- What the program's own divisions of layer 3 answer: narrow, Scale, Near, Floor, Round. -/
import Derived.Test.YtfgkndfcddnhlaaRef3
import Derived.Test.YtfgkndfcddnhlaaWideB
import Derived.Test.YtfgkndfcddnhlaaWideC
namespace Go.Proofs.Ytfgkndfcddnhlaa
open Go.RowKit
set_option linter.unusedVariables false
set_option linter.unusedSimpArgs false
set_option maxHeartbeats 2000000

end Go.Proofs.Ytfgkndfcddnhlaa
