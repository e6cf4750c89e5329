/-
  DiskRef12a, DiskRef12b, DiskRef12c
-/
import Derived.Test.YtalhdalinpdanaaGreatDoorMwl11
import Derived.Deep.RegionWith
import Derived.Deep.CutRange
import Derived.IntWalk
set_option linter.unusedVariables false
set_option linter.unusedSimpArgs false
section
namespace Go.Proofs.YtalhdalinpdanaaGreatDoor.disk
set_option maxRecDepth 20000
open Go.RowKit
attribute [local go_sem] undef
end Go.Proofs.YtalhdalinpdanaaGreatDoor.disk
end
section
namespace Go.Proofs.YtalhdalinpdanaaGreatDoor.disk
set_option maxRecDepth 20000
open Go.RowKit
attribute [local go_sem] undef
end Go.Proofs.YtalhdalinpdanaaGreatDoor.disk
end
section
namespace Go.Proofs.YtalhdalinpdanaaGreatDoor.disk
set_option maxRecDepth 20000
open Go.RowKit
attribute [local go_sem] undef
end Go.Proofs.YtalhdalinpdanaaGreatDoor.disk
end
