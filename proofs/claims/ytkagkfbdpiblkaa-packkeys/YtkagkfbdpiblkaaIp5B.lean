/- What ip.Build answers of a packet that may be built (chapter 4). -/
import Derived.Test.YtkagkfbdpiblkaaIp5
namespace Go.Proofs.Ytkagkfbdpiblkaa
open Go.RowKit
set_option linter.unusedVariables false

end Go.Proofs.Ytkagkfbdpiblkaa
