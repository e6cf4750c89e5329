/-
  ElI64
-/
import Derived.Test.YtbbjlfbemibfcaaGreatMrt08
import Derived.Test.YtbbjlfbemibfcaaGreatChecked
set_option linter.unusedVariables false
set_option linter.unusedSimpArgs false
namespace Go.Proofs.YtbbjlfbemibfcaaGreat
set_option maxRecDepth 20000
open Go.RowKit
theorem info_i64:(Tryz.prog.info? 2).map (fun i=>(i.zero,i.size,i.bytes))=some (some (.int .i64 0),1,8):=by kernel_rfl
theorem int_cells (w:World) (S:Nat→Prop) (cs:List Value) (x:Int) (h:rdInt .i64 w S cs x):cs=(#[Value.int .i64 x]).toList:=h.1
end Go.Proofs.YtbbjlfbemibfcaaGreat
