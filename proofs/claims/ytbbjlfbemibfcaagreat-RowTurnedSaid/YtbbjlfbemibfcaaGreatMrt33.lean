/-
  BookIv
-/
import Derived.Test.YtbbjlfbemibfcaaGreatMrt24
import Derived.Test.YtbbjlfbemibfcaaGreatMrt32
import Derived.Test.YtbbjlfbemibfcaaGreatMrt25
set_option linter.unusedVariables false
set_option linter.unusedSimpArgs false
namespace Go.Proofs.YtbbjlfbemibfcaaGreat.book
set_option maxRecDepth 20000
open Go.RowKit Go.Proofs.YtbbjlfbemibfcaaGreat
open Go.Proofs.YtbbjlfbemibfcaaGreat.order (Or Nt open_ worth oz)
open Go.Proofs.YtbbjlfbemibfcaaGreat.cell (Ce Ex)
open Go.Proofs.YtbbjlfbemibfcaaGreat.rec (Rc)
variable {w0:World} {D:List Fact}
theorem l_begin {r:Rc} (hf:r.fine):Gives Tryz.prog w0 D 100 #[.agg (rec.rc r)] (.tuple #[.agg (order.oc (order.begin_ r).1),.int .i64 (order.begin_ r).2]):=gives (v_begin r hf)
theorem l_change {o:Or} {x z:Int} (hf:o.fine) (hx:frame.inR x) (hz:frame.inR z):Gives Tryz.prog w0 D 104 #[.agg (order.oc o),.int .i64 x,.int .i64 z] (.tuple #[.agg (order.oc (order.change o x z).1),.int .i64 (order.change o x z).2]):=gives (v_change o x z hf)
theorem l_stop {o:Or} (hf:o.fine):Gives Tryz.prog w0 D 106 #[.agg (order.oc o)] (.tuple #[.agg (order.oc (order.stop o).1),.int .i64 (order.stop o).2]):=gives (v_end o)
theorem l_take {o:Or} {n:Nt} (hf:o.fine) (hn:frame.inR n.z∧frame.inR n.t∧frame.inR n.o∧frame.inR n.q∧frame.inR n.p):Gives Tryz.prog w0 D 107 #[.agg (order.oc o),.agg (ntc n)] (.tuple #[.agg (order.oc (order.take o n).1),.int .i64 (order.take o n).2]):=gives (v_take o n hf hn)
theorem l_come {c:Ce} {o:Or} (hc:c.fine) (ho:o.fine):Gives Tryz.prog w0 D 70 #[.agg (cell.cc c),.agg (order.oc o)] (.tuple #[.agg (cell.cc (cell.come c o).1),.int .i64 (cell.come c o).2]):=gives (lcome c o hc ho)
theorem l_go {c:Ce} {o:Or} (hc:c.fine) (ho:o.fine):Gives Tryz.prog w0 D 127 #[.agg (cell.cc c),.agg (order.oc o)] (.tuple #[.agg (cell.cc (cell.go c o).1),.int .i64 (cell.go c o).2]):=gives (lgo c o hc ho)
theorem l_did {c:Ce} {d q:Int} (hc:c.fine) (hd:frame.inR d) (hq:frame.inR q):Gives Tryz.prog w0 D 128 #[.agg (cell.cc c),.int .i64 d,.int .i64 q] (.tuple #[.agg (cell.cc (cell.did c d q).1),.int .i64 (cell.did c d q).2]):=gives (ldid c d q hc hd hq)
theorem l_of {c:Ce} (hc:c.fine):Gives Tryz.prog w0 D 93 #[.agg (cell.cc c)] (.tuple #[.agg (cell.xc (cell.of_ c).1),.int .i64 (cell.of_ c).2]):=gives (v_of c hc)
theorem l_lright {l:Ex} : Gives Tryz.prog w0 D 47 #[.agg (cell.xc l)] (.bool (limit.right l)):=gives (v_lright l)
theorem l_against {a b c:Ex} : Gives Tryz.prog w0 D 125 #[.agg (cell.xc a),.agg (cell.xc b),.agg (cell.xc c)] (.bool (limit.against a b c)):=gives (v_against a b c)
theorem l_cap {a b c:Int} : Gives Tryz.prog w0 D 126 #[.int .i64 a,.int .i64 b,.int .i64 c] (.bool (limit.cap a b c)):=gives (v_cap a b c)
theorem l_whole {A:Option Addr} {n c:Nat} {xs:List Ce} (h:∀ w,Below w0.heap.size w0 w→All D w→Elems rdCell 4 w (Lt w.heap.size) A xs) (hn:xs.length=n) (hm:n≤100):Gives Tryz.prog w0 D 71 #[.slice A n c] (.tuple #[.int .i64 (limit.whole xs).1,.int .i64 (limit.whole xs).2]) :=
 fun w hw ha=>limit.whole_is A n c w.heap.size xs w (h w hw ha) (Nat.le_refl _) hn hm rfl
end Go.Proofs.YtbbjlfbemibfcaaGreat.book
