/-
  CelV
-/
import Derived.Test.YtcpahggkioagkaaMvf28
import Derived.Test.YtcpahggkioagkaaMvf23
import Derived.Test.YtcpahggkioagkaaMvf16
import Derived.Test.YtcpahggkioagkaaMvf15
set_option linter.unusedVariables false
set_option linter.unusedSimpArgs false
namespace Go.Proofs.Ytcpahggkioagkaa.book
open Go.RowKit Go.Proofs.Ytcpahggkioagkaa
open Go.Proofs.Ytcpahggkioagkaa.order (Or open_ worth oz)
open Go.Proofs.Ytcpahggkioagkaa.cell (Ce Ex)
set_option maxRecDepth 20000
section
variable {c:Ce}
end
section
variable {w0:World} {D:List Fact}
end
end Go.Proofs.Ytcpahggkioagkaa.book
