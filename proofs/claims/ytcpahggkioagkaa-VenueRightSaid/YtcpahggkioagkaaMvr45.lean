/-
  LimRefW
-/
import Derived.Test.YtcpahggkioagkaaMvr16
import Derived.Test.YtcpahggkioagkaaMvr15
import Derived.Test.YtcpahggkioagkaaMvr44
import Derived.Deep.DeepCutAuto
set_option linter.unusedVariables false
set_option linter.unusedSimpArgs false
namespace Go.Proofs.Ytcpahggkioagkaa.limit
set_option maxRecDepth 20000
open Go.RowKit Go.Proofs.Ytcpahggkioagkaa Go.Proofs.Ytcpahggkioagkaa.num
end Go.Proofs.Ytcpahggkioagkaa.limit
