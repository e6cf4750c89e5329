/-
  zo8
-/
import Derived.Test.YtbbjlfbemibfcaaGreatMrr08
import Derived.Test.YtbbjlfbemibfcaaGreatChecked
set_option linter.unusedVariables false
set_option linter.unusedSimpArgs false
namespace Go.Proofs.YtbbjlfbemibfcaaGreat
set_option maxRecDepth 20000
open Go.RowKit
theorem qb0:(Tryz.prog.info? 2).map (fun i=>(i.zero,i.size,i.bytes))=some (some (.int .i64 0),1,8):=by kernel_rfl
theorem Gw (w:World) (S:Nat→Prop) (cs:List Value) (x:Int) (h:bf .i64 w S cs x):cs=(#[Value.int .i64 x]).toList:=h.1
end Go.Proofs.YtbbjlfbemibfcaaGreat
