/-
  LimRefW
-/
import Derived.Test.YtcpahggkioagkaaMvf15
import Derived.Test.YtcpahggkioagkaaMvf14
import Derived.Test.YtcpahggkioagkaaMvf43
import Derived.Deep.DeepCutAuto
set_option linter.unusedVariables false
set_option linter.unusedSimpArgs false
namespace Go.Proofs.Ytcpahggkioagkaa.limit
set_option maxRecDepth 20000
open Go.RowKit Go.Proofs.Ytcpahggkioagkaa Go.Proofs.Ytcpahggkioagkaa.num
end Go.Proofs.Ytcpahggkioagkaa.limit
