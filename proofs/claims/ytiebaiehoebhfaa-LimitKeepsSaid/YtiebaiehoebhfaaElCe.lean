/-
  Cells as elements of rows of the call's own.
-/
import Derived.Test.YtiebaiehoebhfaaVcM
import Derived.Test.YtiebaiehoebhfaaCls
namespace Go.Proofs.Ytiebaiehoebhfaa
open Go.RowKit
set_option linter.unusedVariables false
theorem leaf_cell : Leaf rdCell := fun _ _ cs f ⟨h, _⟩ c hc => by
  rw [h] at hc
  simp [cell.cc] at hc
  rcases hc with rfl | rfl | rfl | rfl <;> rfl
theorem info_cell : (Try.prog.info? 39).map (fun i => (i.zero, i.size, i.bytes)) = some (some (.agg #[.int .i64 0, .int .i64 0, .int .i64 0, .int .i64 0]), 4, 32) := by kernel_rfl
theorem cell_cells (w : World) (S : Nat → Prop) (cs : List Value) (x : cell.Ce) (h : rdCell w S cs x) : cs = (cell.cc x).toList := h.1
namespace cell
def cz : Ce := ⟨0, 0, 0, 0⟩
end cell
abbrev OwnCs (w : World) (base : Nat) (A : Option Addr) (n c : Nat) (xs : List cell.Ce) : Prop := OwnElems rdCell 4 w base 39 (fun _ => False) A n c xs
end Go.Proofs.Ytiebaiehoebhfaa
