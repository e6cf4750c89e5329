/-
  BookIv
-/
import Derived.Test.YtiljgndgffoloabMA18
import Derived.Test.YtiljgndgffoloabMA24
import Derived.Test.YtiljgndgffoloabMA21
import Derived.Test.YtiljgndgffoloabMA27
import Derived.Test.YtiljgndgffoloabMA29
import Derived.Test.YtiljgndgffoloabMA30
import Derived.Test.YtiljgndgffoloabMA32
namespace Go.Proofs.Ytiljgndgffoloab.book
open Go.RowKit Go.Proofs.Ytiljgndgffoloab
open Go.Proofs.Ytiljgndgffoloab.order (Or Nt open_ worth oz)
open Go.Proofs.Ytiljgndgffoloab.cell (Ce Ex)
open Go.Proofs.Ytiljgndgffoloab.rec (Rc)
set_option linter.unusedVariables false
variable {w0 : World} {D : List Fact}
theorem l_begin {r : Rc} (hf : r.fine) : Gives Try.prog w0 D 61 #[.agg (rec.rc r)] (.tuple #[.agg (order.oc (order.begin_ r).1), .int .i64 (order.begin_ r).2]) := gives (fun w => order.begin_any r.k r.o r.a r.y r.d r.q r.p r.l r.s r.n r.on r.z r.t hf w)
theorem l_change {o : Or} {x z : Int} (hf : o.fine) (hx : frame.inR x) (hz : frame.inR z) : Gives Try.prog w0 D 65 #[.agg (order.oc o), .int .i64 x, .int .i64 z] (.tuple #[.agg (order.oc (order.change o x z).1), .int .i64 (order.change o x z).2]) := gives (fun w => order.change_is o.i o.a o.y o.d o.q o.p o.f o.h o.m o.r o.v o.g x z hf ⟨hx, hz⟩ rfl w)
theorem l_stop {o : Or} (hf : o.fine) : Gives Try.prog w0 D 67 #[.agg (order.oc o)] (.tuple #[.agg (order.oc (order.stop o).1), .int .i64 (order.stop o).2]) := gives (fun w => order.stop_is o.i o.a o.y o.d o.q o.p o.f o.h o.m o.r o.v o.g hf rfl w)
theorem l_take {o : Or} {n : Nt} (hf : o.fine) (hn : frame.inR n.z ∧ frame.inR n.t ∧ frame.inR n.o ∧ frame.inR n.q ∧ frame.inR n.p) : Gives Try.prog w0 D 68 #[.agg (order.oc o), .agg (ntc n)] (.tuple #[.agg (order.oc (order.take o n).1), .int .i64 (order.take o n).2]) := gives (fun w => order.take_any o.i o.a o.y o.d o.q o.p o.f o.h o.m o.r o.v o.g n.z n.t n.o n.q n.p hf hn w)
theorem l_come {c : Ce} {o : Or} (hc : c.fine) (ho : o.fine) : Gives Try.prog w0 D 33 #[.agg (cell.cc c), .agg (order.oc o)] (.tuple #[.agg (cell.cc (cell.come c o).1), .int .i64 (cell.come c o).2]) := gives (lcome c o hc ho)
theorem l_go {c : Ce} {o : Or} (hc : c.fine) (ho : o.fine) : Gives Try.prog w0 D 83 #[.agg (cell.cc c), .agg (order.oc o)] (.tuple #[.agg (cell.cc (cell.go c o).1), .int .i64 (cell.go c o).2]) := gives (lgo c o hc ho)
theorem l_did {c : Ce} {d q : Int} (hc : c.fine) (hd : frame.inR d) (hq : frame.inR q) : Gives Try.prog w0 D 84 #[.agg (cell.cc c), .int .i64 d, .int .i64 q] (.tuple #[.agg (cell.cc (cell.did c d q).1), .int .i64 (cell.did c d q).2]) := gives (ldid c d q hc hd hq)
theorem l_of {c : Ce} (hc : c.fine) : Gives Try.prog w0 D 26 #[.agg (cell.cc c)] (.tuple #[.agg (cell.xc (cell.of_ c).1), .int .i64 (cell.of_ c).2]) := gives (fun w => cell.of_any c.p c.b c.s c.n hc w)
theorem l_lright {l : Ex} : Gives Try.prog w0 D 23 #[.agg (cell.xc l)] (.bool (limit.right l)) := gives (fun w => limit.right_is l.l l.s l.n rfl w)
theorem l_against {a b c : Ex} : Gives Try.prog w0 D 81 #[.agg (cell.xc a), .agg (cell.xc b), .agg (cell.xc c)] (.bool (limit.against a b c)) := gives (fun w => limit.against_is a.l a.s a.n b.l b.s b.n c.l c.s c.n rfl w)
theorem l_cap {a b c : Int} : Gives Try.prog w0 D 82 #[.int .i64 a, .int .i64 b, .int .i64 c] (.bool (limit.cap a b c)) := gives (fun w => limit.cap_is a b c rfl w)
theorem l_whole {A : Option Addr} {n c : Nat} {xs : List Ce} (h : ∀ w, Below w0.heap.size w0 w → All D w → Elems rdCell 4 w (Lt w.heap.size) A xs) (hn : xs.length = n) (hm : n ≤ 100) : Gives Try.prog w0 D 35 #[.slice A n c] (.tuple #[.int .i64 (limit.whole xs).1, .int .i64 (limit.whole xs).2]) :=
  fun w hw ha => limit.whole_is A n c w.heap.size xs w (h w hw ha) (Nat.le_refl _) hn hm rfl
theorem l_rec {r : Rc} (hf : r.fine) : Gives Try.prog w0 D 40 #[.agg (rec.rc r)] (.bool (rec.right r)) := gives (fun w => rec.right_is r.k r.o r.a r.y r.d r.q r.p r.l r.s r.n r.on r.z r.t hf rfl w)
end Go.Proofs.Ytiljgndgffoloab.book
