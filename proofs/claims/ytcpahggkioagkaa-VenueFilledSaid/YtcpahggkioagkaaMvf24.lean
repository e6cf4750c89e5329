/-
  RecRd
-/
import Derived.Test.YtcpahggkioagkaaMvf11
import Derived.Test.YtcpahggkioagkaaMvf13
import Derived.Test.YtcpahggkioagkaaMvf06
set_option linter.unusedVariables false
set_option linter.unusedSimpArgs false
namespace Go.Proofs.Ytcpahggkioagkaa.rec
set_option maxRecDepth 20000
open Go.RowKit Go.Proofs.Ytcpahggkioagkaa
def rc (r:Rc):Array Value:=#[.int .i64 r.k,.int .i64 r.o,.int .i64 r.a,.int .i64 r.y,.int .i64 r.d,.int .i64 r.q,.int .i64 r.p,.int .i64 r.l,.int .i64 r.s,.int .i64 r.n,.bool r.on,.int .i64 r.z,.int .i64 r.t]
def nc (b:Ns):Array Value:=#[.int .i64 b.b0,.int .i64 b.b1,.int .i64 b.b2,.int .i64 b.b3,.int .i64 b.b4,.int .i64 b.b5]
theorem cells13 {W:World} {g:Nat} {T:TypeId} {k o a y d q p l s n:Int} {on:Bool} {z t:Int} (h:W.heap[g]?=some (.cells #[.int .i64 k,.int .i64 o,.int .i64 a,.int .i64 y,.int .i64 d,.int .i64 q,.int .i64 p,.int .i64 l,.int .i64 s,.int .i64 n,.bool on,.int .i64 z,.int .i64 t] T (0,0))) :
  W.cell? ⟨g,0,none⟩=some (.int .i64 k)∧W.cell? ⟨g,1,none⟩=some (.int .i64 o)∧W.cell? ⟨g,2,none⟩=some (.int .i64 a)∧W.cell? ⟨g,3,none⟩=some (.int .i64 y)∧W.cell? ⟨g,4,none⟩=some (.int .i64 d)∧W.cell? ⟨g,5,none⟩=some (.int .i64 q)∧W.cell? ⟨g,6,none⟩=some (.int .i64 p)∧W.cell? ⟨g,7,none⟩=some (.int .i64 l)∧W.cell? ⟨g,8,none⟩=some (.int .i64 s)∧W.cell? ⟨g,9,none⟩=some (.int .i64 n)∧W.cell? ⟨g,10,none⟩=some (.bool on)∧W.cell? ⟨g,11,none⟩=some (.int .i64 z)∧W.cell? ⟨g,12,none⟩=some (.int .i64 t) :=
 ⟨(block_cell h 0 _ rfl).1,(block_cell h 1 _ rfl).1,(block_cell h 2 _ rfl).1,(block_cell h 3 _ rfl).1,(block_cell h 4 _ rfl).1,(block_cell h 5 _ rfl).1,(block_cell h 6 _ rfl).1,(block_cell h 7 _ rfl).1,(block_cell h 8 _ rfl).1,(block_cell h 9 _ rfl).1,(block_cell h 10 _ rfl).1,(block_cell h 11 _ rfl).1,(block_cell h 12 _ rfl).1⟩
end Go.Proofs.Ytcpahggkioagkaa.rec
