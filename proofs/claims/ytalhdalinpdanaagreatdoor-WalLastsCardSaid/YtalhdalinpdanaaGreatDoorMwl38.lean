/-
  DiskRef8
-/
import Derived.Test.YtalhdalinpdanaaGreatDoorMwl11
import Derived.Deep.RegionWith
set_option linter.unusedVariables false
set_option linter.unusedSimpArgs false
namespace Go.Proofs.YtalhdalinpdanaaGreatDoor.disk
set_option maxRecDepth 20000
open Go.RowKit
end Go.Proofs.YtalhdalinpdanaaGreatDoor.disk
