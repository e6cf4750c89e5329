/-
  CelV
-/
import Derived.Test.YtcpahggkioagkaaMvr29
import Derived.Test.YtcpahggkioagkaaMvr24
import Derived.Test.YtcpahggkioagkaaMvr17
import Derived.Test.YtcpahggkioagkaaMvr16
set_option linter.unusedVariables false
set_option linter.unusedSimpArgs false
namespace Go.Proofs.Ytcpahggkioagkaa.book
open Go.RowKit Go.Proofs.Ytcpahggkioagkaa
open Go.Proofs.Ytcpahggkioagkaa.order (Or open_ worth oz)
open Go.Proofs.Ytcpahggkioagkaa.cell (Ce Ex)
set_option maxRecDepth 20000
section
variable {c:Ce}
end
section
variable {w0:World} {D:List Fact}
end
end Go.Proofs.Ytcpahggkioagkaa.book
