/-
  DiskImpl10
-/
import Derived.Test.YtlipgnenbdchmaaMsg29
import Derived.Test.YtlipgnenbdchmaaMsg27
import Derived.Deep.RegionLaw
import Derived.Lib.SliceRun
set_option linter.unusedVariables false
set_option linter.unusedSimpArgs false
namespace Go.Proofs.Ytlipgnenbdchmaa.disk
set_option maxRecDepth 20000
open Go.RowKit
end Go.Proofs.Ytlipgnenbdchmaa.disk
