/-
  ElI64
-/
import Derived.Test.YtcpahggkioagkaaMvf10
import Derived.Test.YtcpahggkioagkaaChecked
set_option linter.unusedVariables false
set_option linter.unusedSimpArgs false
namespace Go.Proofs.Ytcpahggkioagkaa
set_option maxRecDepth 20000
open Go.RowKit
end Go.Proofs.Ytcpahggkioagkaa
