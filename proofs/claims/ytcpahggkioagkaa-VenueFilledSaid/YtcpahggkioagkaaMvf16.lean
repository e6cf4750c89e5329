/-
  ElOr, ElCe, ElEx
-/
import Derived.Test.YtcpahggkioagkaaMvf10
import Derived.Test.YtcpahggkioagkaaMvf14
set_option linter.unusedVariables false
set_option linter.unusedSimpArgs false
section
namespace Go.Proofs.Ytcpahggkioagkaa
set_option maxRecDepth 20000
open Go.RowKit
theorem leaf_order:Leaf rdOrder:=fun _ _ cs f ⟨h,_⟩ c hc=>by
 rw [h] at hc
 simp [order.oc] at hc
 rcases hc with rfl | rfl | rfl | rfl | rfl | rfl | rfl | rfl | rfl | rfl | rfl | rfl<;>rfl
theorem info_order:(Try.prog.info? 53).map (fun i=>(i.zero,i.size,i.bytes))=some (some (.agg #[.int .i64 0,.int .i64 0,.int .i64 0,.int .i64 0,.int .i64 0,.int .i64 0,.int .i64 0,.int .i64 0,.int .i64 0,.int .i64 0,.int .i64 0,.bool false]),12,96):=by kernel_rfl
theorem order_cells (w:World) (S:Nat→Prop) (cs:List Value) (x:order.Or) (h:rdOrder w S cs x):cs=(order.oc x).toList:=h.1
end Go.Proofs.Ytcpahggkioagkaa
end
section
namespace Go.Proofs.Ytcpahggkioagkaa
set_option maxRecDepth 20000
open Go.RowKit
theorem cell_cells (w:World) (S:Nat→Prop) (cs:List Value) (x:cell.Ce) (h:rdCell w S cs x):cs=(cell.cc x).toList:=h.1
namespace cell
def cz:Ce:=⟨0,0,0,0⟩
end cell
end Go.Proofs.Ytcpahggkioagkaa
end
section
namespace Go.Proofs.Ytcpahggkioagkaa
set_option maxRecDepth 20000
open Go.RowKit
theorem expo_cells (w:World) (S:Nat→Prop) (cs:List Value) (x:cell.Ex) (h:rdExpo w S cs x):cs=(cell.xc x).toList:=h.1
end Go.Proofs.Ytcpahggkioagkaa
end
