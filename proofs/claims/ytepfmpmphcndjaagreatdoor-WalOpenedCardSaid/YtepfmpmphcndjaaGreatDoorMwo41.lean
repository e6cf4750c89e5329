/-
  DiskRef12a, DiskRef12b, DiskRef12c
-/
import Derived.Test.YtepfmpmphcndjaaGreatDoorMwo12
import Derived.Deep.RegionWith
import Derived.Deep.CutRange
import Derived.IntWalk
set_option linter.unusedVariables false
set_option linter.unusedSimpArgs false
section
namespace Go.Proofs.YtepfmpmphcndjaaGreatDoor.disk
set_option maxRecDepth 20000
open Go.RowKit
attribute [local go_sem] undef
end Go.Proofs.YtepfmpmphcndjaaGreatDoor.disk
end
section
namespace Go.Proofs.YtepfmpmphcndjaaGreatDoor.disk
set_option maxRecDepth 20000
open Go.RowKit
attribute [local go_sem] undef
end Go.Proofs.YtepfmpmphcndjaaGreatDoor.disk
end
section
namespace Go.Proofs.YtepfmpmphcndjaaGreatDoor.disk
set_option maxRecDepth 20000
open Go.RowKit
attribute [local go_sem] undef
end Go.Proofs.YtepfmpmphcndjaaGreatDoor.disk
end
