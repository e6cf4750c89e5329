/-
  RefAdd, RefSub, RefMul
-/
import Derived.Test.YtcpahggkioagkaaRows
import Derived.Test.YtcpahggkioagkaaMvf15
import Derived.WalkKit
import Derived.WalkSpells
import Derived.WalkLawsBesides
import Derived.Laws.Bits64
set_option linter.unusedVariables false
set_option linter.unusedSimpArgs false
section
namespace Go.Proofs.Ytcpahggkioagkaa.num
set_option maxRecDepth 20000
open Go.RowKit
end Go.Proofs.Ytcpahggkioagkaa.num
end
section
namespace Go.Proofs.Ytcpahggkioagkaa.num
set_option maxRecDepth 20000
open Go.RowKit
end Go.Proofs.Ytcpahggkioagkaa.num
end
section
namespace Go.Proofs.Ytcpahggkioagkaa.num
set_option maxRecDepth 20000
open Go.RowKit
end Go.Proofs.Ytcpahggkioagkaa.num
end
