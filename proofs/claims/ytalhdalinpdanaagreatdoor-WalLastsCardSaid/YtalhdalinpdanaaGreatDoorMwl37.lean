/-
  WalLaid
-/
import Derived.Test.YtalhdalinpdanaaGreatDoorRows
import Derived.LaidLaws
import Derived.Stop.LaidErr
import Derived.Lib.LaidTab
import Derived.Deep.DeepLaidRun
import Derived.Test.YtalhdalinpdanaaGreatDoorMwl36
set_option linter.unusedVariables false
set_option linter.unusedSimpArgs false
namespace Go.Proofs.YtalhdalinpdanaaGreatDoor.wal
set_option maxRecDepth 20000
open Go.RowKit Go.ChangeShapes Go.WideShapes
abbrev laidL : List (String × DataW Unit) := [("math/bits.deBruijn32tab", Rows.laid_math_bits_deBruijn32tab), ("math/bits.deBruijn64tab", Rows.laid_math_bits_deBruijn64tab), ("internal/strconv.uint64pow10", Rows.laid_internal_strconv_uint64pow10), ("strconv.ErrRange", Rows.laid_strconv_ErrRange), ("strconv.ErrSyntax", Rows.laid_strconv_ErrSyntax)]
theorem star_err : "*" ++ "errors.errorString" = "*errors.errorString" := by decide
theorem row_err (u : TypeId) (h : Tryz.prog.typeName? 3 u = some "*errors.errorString") : u = 210 :=
 typeName_ptr_named (nm := "errors.errorString") (by rw [star_err]; kernel_rfl) (by kernel_rfl) (by decide) u (by rw [star_err]; exact h)
theorem tab_of {W:World} (h:laidMet Tryz.prog laidL W):TabW W :=
 Lib.tabIs_of_head (rest := [("strconv.ErrRange", Rows.laid_strconv_ErrRange), ("strconv.ErrSyntax", Rows.laid_strconv_ErrSyntax)]) (g := 0) (t := 194) (e := 157) (n := 20) (by kernel_rfl) (by kernel_rfl) Tryz.underlying194 Tryz.underlying157 (by kernel_rfl) (by kernel_rfl) h.tail.tail
theorem ev_of {W:World} (h:laidMet Tryz.prog laidL W):ErrVar W:=by
 obtain ⟨a,s,hv,_⟩:=laid_sentinel (g:=1) (ti:=118) (ts:=9) h.tail.tail.tail.tail (by kernel_rfl) (by kernel_rfl) Tryz.underlying118 row_err Tryz.underlying210 Tryz.underlying212 rfl rfl Tryz.underlying9 (by kernel_rfl) (by kernel_rfl)
 exact ⟨_,_,hv⟩
def cellsOfD:DataW Unit→List Value
 | .agg l=>l.filterMap fun x=>match x with
  | .lit (.int k z)=>some (.int k z)
  | _=>none
 | _=>[]
def textOfD:DataW Unit→ByteArray
 | .iface _ (.ptr (.agg [.lit (.string s)]))=>⟨s.toArray⟩
 | _=>ByteArray.empty
noncomputable def low:Nat:=(World.holding Tryz.prog default ⟨#[],#[],[]⟩).heap.size
def laid1 (cs:List Value):Obj→Obj
 | .cells _ t fr=>.cells cs.toArray t fr
 |o=>o
noncomputable def laidWorld (os:Os):World :=
 let w0:=World.holding Tryz.prog os ⟨#[.cells #[.string (textOfD Rows.laid_strconv_ErrRange)] 212,.cells #[.string (textOfD Rows.laid_strconv_ErrSyntax)] 212],#[],[]⟩
 { w0 with heap:=((((w0.heap.modify 4 (laid1 (cellsOfD Rows.laid_math_bits_deBruijn32tab))).modify 5 (laid1 (cellsOfD Rows.laid_math_bits_deBruijn64tab))).modify 0 (laid1 (cellsOfD Rows.laid_internal_strconv_uint64pow10))).modify 2 (laid1 [.iface 210 (.pointer (some ⟨low,0,none⟩))])).modify 1 (laid1 [.iface 210 (.pointer (some ⟨low+1,0,none⟩))]) }
set_option maxRecDepth 100000 in
theorem laidWorld_met (os:Os) (args:Array Value):laidMet Tryz.prog laidL ((laidWorld os).forCall (fun _ _=>0) ⟨#[],args,[]⟩).memory :=
 laidMet_of_run3 8 (by kernel_rfl) (by kernel_rfl) (by kernel_rfl)
end Go.Proofs.YtalhdalinpdanaaGreatDoor.wal
