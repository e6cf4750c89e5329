/-
  ElCe, ElEx, ElOr
-/
import Derived.Test.YtaagpldanbjacaaMa08
import Derived.Test.YtaagpldanbjacaaMa14
section
namespace Go.Proofs.Ytaagpldanbjacaa
open Go.RowKit
set_option linter.unusedVariables false
theorem leaf_cell : Leaf rdCell := fun _ _ cs f ⟨h, _⟩ c hc => by
  rw [h] at hc
  simp [cell.cc] at hc
  rcases hc with rfl | rfl | rfl | rfl <;> rfl
theorem info_cell : (Try.prog.info? 41).map (fun i => (i.zero, i.size, i.bytes)) = some (some (.agg #[.int .i64 0, .int .i64 0, .int .i64 0, .int .i64 0]), 4, 32) := by kernel_rfl
theorem cell_cells (w : World) (S : Nat → Prop) (cs : List Value) (x : cell.Ce) (h : rdCell w S cs x) : cs = (cell.cc x).toList := h.1
namespace cell
def cz : Ce := ⟨0, 0, 0, 0⟩
end cell
abbrev OwnCs (w : World) (base : Nat) (A : Option Addr) (n c : Nat) (xs : List cell.Ce) : Prop := OwnElems rdCell 4 w base 41 (fun _ => False) A n c xs
end Go.Proofs.Ytaagpldanbjacaa
end
section
namespace Go.Proofs.Ytaagpldanbjacaa
open Go.RowKit
set_option linter.unusedVariables false
theorem leaf_expo : Leaf rdExpo := fun _ _ cs f ⟨h, _⟩ c hc => by
  rw [h] at hc
  simp [cell.xc] at hc
  rcases hc with rfl | rfl | rfl <;> rfl
theorem info_expo : (Try.prog.info? 37).map (fun i => (i.zero, i.size, i.bytes)) = some (some (.agg #[.int .i64 0, .int .i64 0, .int .i64 0]), 3, 24) := by kernel_rfl
theorem expo_cells (w : World) (S : Nat → Prop) (cs : List Value) (x : cell.Ex) (h : rdExpo w S cs x) : cs = (cell.xc x).toList := h.1
end Go.Proofs.Ytaagpldanbjacaa
end
section
namespace Go.Proofs.Ytaagpldanbjacaa
open Go.RowKit
set_option linter.unusedVariables false
theorem leaf_order : Leaf rdOrder := fun _ _ cs f ⟨h, _⟩ c hc => by
  rw [h] at hc
  simp [order.oc] at hc
  rcases hc with rfl | rfl | rfl | rfl | rfl | rfl | rfl | rfl | rfl | rfl | rfl | rfl <;> rfl
theorem info_order : (Try.prog.info? 46).map (fun i => (i.zero, i.size, i.bytes)) = some (some (.agg #[.int .i64 0, .int .i64 0, .int .i64 0, .int .i64 0, .int .i64 0, .int .i64 0, .int .i64 0, .int .i64 0, .int .i64 0, .int .i64 0, .int .i64 0, .bool false]), 12, 96) := by kernel_rfl
theorem order_cells (w : World) (S : Nat → Prop) (cs : List Value) (x : order.Or) (h : rdOrder w S cs x) : cs = (order.oc x).toList := h.1
end Go.Proofs.Ytaagpldanbjacaa
end
