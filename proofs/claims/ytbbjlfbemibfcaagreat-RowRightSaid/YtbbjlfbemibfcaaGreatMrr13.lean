/-
  zxw, zxx, zxy
-/
import Derived.Test.YtbbjlfbemibfcaaGreatMrr08
import Derived.Test.YtbbjlfbemibfcaaGreatMrr12
set_option linter.unusedVariables false
set_option linter.unusedSimpArgs false
section
namespace Go.Proofs.YtbbjlfbemibfcaaGreat
set_option maxRecDepth 20000
open Go.RowKit
theorem Nv:Leaf gu:=fun _ _ cs f ⟨h,_⟩ c hc=>by
 rw [h] at hc
 simp [cell.cc] at hc
 rcases hc with rfl | rfl | rfl | rfl<;>rfl
theorem yg:(Tryz.prog.info? 60).map (fun i=>(i.zero,i.size,i.bytes))=some (some (.agg #[.int .i64 0,.int .i64 0,.int .i64 0,.int .i64 0]),4,32):=by kernel_rfl
theorem qa2 (w:World) (S:Nat→Prop) (cs:List Value) (x:cell.Ce) (h:gu w S cs x):cs=(cell.cc x).toList:=h.1
namespace cell
def cz:Ce:=⟨0,0,0,0⟩
end cell
end Go.Proofs.YtbbjlfbemibfcaaGreat
end
section
namespace Go.Proofs.YtbbjlfbemibfcaaGreat
set_option maxRecDepth 20000
open Go.RowKit
theorem Oq:Leaf je:=fun _ _ cs f ⟨h,_⟩ c hc=>by
 rw [h] at hc
 simp [cell.xc] at hc
 rcases hc with rfl | rfl | rfl<;>rfl
theorem Es:(Tryz.prog.info? 51).map (fun i=>(i.zero,i.size,i.bytes))=some (some (.agg #[.int .i64 0,.int .i64 0,.int .i64 0]),3,24):=by kernel_rfl
theorem Gq (w:World) (S:Nat→Prop) (cs:List Value) (x:cell.Ex) (h:je w S cs x):cs=(cell.xc x).toList:=h.1
end Go.Proofs.YtbbjlfbemibfcaaGreat
end
section
namespace Go.Proofs.YtbbjlfbemibfcaaGreat
set_option maxRecDepth 20000
open Go.RowKit
theorem Py:Leaf eu:=fun _ _ cs f ⟨h,_⟩ c hc=>by
 rw [h] at hc
 simp [order.oc] at hc
 rcases hc with rfl | rfl | rfl | rfl | rfl | rfl | rfl | rfl | rfl | rfl | rfl | rfl<;>rfl
theorem qbd:(Tryz.prog.info? 54).map (fun i=>(i.zero,i.size,i.bytes))=some (some (.agg #[.int .i64 0,.int .i64 0,.int .i64 0,.int .i64 0,.int .i64 0,.int .i64 0,.int .i64 0,.int .i64 0,.int .i64 0,.int .i64 0,.int .i64 0,.bool false]),12,96):=by kernel_rfl
theorem Dv (w:World) (S:Nat→Prop) (cs:List Value) (x:order.Or) (h:eu w S cs x):cs=(order.oc x).toList:=h.1
end Go.Proofs.YtbbjlfbemibfcaaGreat
end
