/-
  Small words of the walks, over no function.
-/
import Derived.Test.YtiebaiehoebhfaaFrameMath
import Derived.Test.YtiebaiehoebhfaaKeys
namespace Go.Proofs.Ytiebaiehoebhfaa.rec
open Go.RowKit
open Go.Proofs.Ytiebaiehoebhfaa.frame (inR)
set_option linter.unusedVariables false

theorem retB {a b : Bool} (h : a = b) : Ending.returned (.bool a) = .returned (.bool b) := by rw [h]
theorem wf64 {x : Int} (h : inR x) : (Lit.int .i64 x).wf = true := by
  simpa [Lit.wf, IntKind.min, IntKind.max, IntKind.signed, IntKind.bits, inR] using h

end Go.Proofs.Ytiebaiehoebhfaa.rec
namespace Go.Proofs.Ytiebaiehoebhfaa.order
open Go.RowKit

theorem eq_cases (x n : Int) : (Hid (x = n) ∧ (x == n) = true ∧ (x != n) = false) ∨ (Hid (x ≠ n) ∧ (x == n) = false ∧ (x != n) = true) := by
  by_cases h : x = n
  · exact .inl ⟨Lib.hid h, by simp [h], by simp [h]⟩
  · exact .inr ⟨Lib.hid h, by simp [h], by simp [h]⟩
theorem bool_cases (g : Bool) : (Hid (g = true) ∧ g = true) ∨ (Hid (g = false) ∧ g = false) := by
  cases g
  · exact .inr ⟨Lib.hid rfl, rfl⟩
  · exact .inl ⟨Lib.hid rfl, rfl⟩

end Go.Proofs.Ytiebaiehoebhfaa.order
