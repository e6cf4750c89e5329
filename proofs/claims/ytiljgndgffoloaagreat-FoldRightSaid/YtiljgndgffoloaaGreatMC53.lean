/-
  Api10
-/
import Derived.Test.YtiljgndgffoloaaGreatMC15
import Derived.Test.YtiljgndgffoloaaGreatMC21
namespace Go.Proofs.YtiljgndgffoloaaGreat
open Go.RowKit
set_option linter.unusedVariables false

abbrev StateD : Type := book.St
def rdState : Rd StateD := fun w S cs s => ∃ v : Sv, cs = (stc v s).toList ∧ InS w S v s
theorem of_state : OfTrod Tryz.prog 27 rdState := fun H enc w fuel cs x h => by
  have hl := struct_len Tryz.underlying27 h
  rw [show Tryz.prog.cellsOf 27 = 10 by kernel_rfl] at hl
  obtain ⟨a, e0, h0⟩ := of_field Tryz.underlying27 h 0 _ rfl 1 (by kernel_rfl) (of_int Tryz.underlying3)
  obtain ⟨y, e1, h1⟩ := of_field Tryz.underlying27 h 1 _ rfl 1 (by kernel_rfl) (of_int Tryz.underlying3)
  obtain ⟨os, A1, n1, c1, e2, h2⟩ := of_field Tryz.underlying27 h 2 _ rfl 1 (by kernel_rfl) (of_slice of_order Tryz.underlying22 (size := 12) (by kernel_rfl) (by decide))
  obtain ⟨cs', A2, n2, c2, e3, h3⟩ := of_field Tryz.underlying27 h 3 _ rfl 1 (by kernel_rfl) (of_slice of_cell Tryz.underlying23 (size := 4) (by kernel_rfl) (by decide))
  obtain ⟨ls, A3, n3, c3, e4, h4⟩ := of_field Tryz.underlying27 h 4 _ rfl 1 (by kernel_rfl) (of_slice of_expo Tryz.underlying24 (size := 3) (by kernel_rfl) (by decide))
  obtain ⟨ps, A4, n4, c4, e5, h5⟩ := of_field Tryz.underlying27 h 5 _ rfl 1 (by kernel_rfl) (of_slice (of_int Tryz.underlying2) Tryz.underlying25 (size := 1) (by kernel_rfl) (by decide))
  obtain ⟨k, e6⟩ := of_field Tryz.underlying27 h 6 _ rfl 1 (by kernel_rfl) (of_bool Tryz.underlying4)
  obtain ⟨l, e7, h7⟩ := of_field Tryz.underlying27 h 7 _ rfl 1 (by kernel_rfl) (of_int Tryz.underlying2)
  obtain ⟨q, e8, h8⟩ := of_field Tryz.underlying27 h 8 _ rfl 1 (by kernel_rfl) (of_int Tryz.underlying2)
  obtain ⟨n, e9, h9⟩ := of_field Tryz.underlying27 h 9 _ rfl 1 (by kernel_rfl) (of_int Tryz.underlying2)
  obtain ⟨g2, rfl, i2, j2⟩ := h2
  obtain ⟨g3, rfl, i3, j3⟩ := h3
  obtain ⟨g4, rfl, i4, j4⟩ := h4
  obtain ⟨g5, rfl, i5, j5⟩ := h5
  match cs, hl with
  | [d0, d1, d2, d3, d4, d5, d6, d7, d8, d9], _ =>
    simp [rdBool] at e0 e1 e2 e3 e4 e5 e6 e7 e8 e9
    subst e0 e1 e2 e3 e4 e5 e6 e7 e8 e9
    exact ⟨⟨a, y, os, cs', ls, ps, k, l, q, n⟩, ⟨A1, c1, A2, c2, A3, c3, A4, c4⟩, rfl, ⟨g2, g3, g4, g5, ⟨i2, j2⟩, ⟨i3, j3⟩, ⟨i4, j4⟩, ⟨i5, j5⟩, inI_of_wf h0, inI_of_wf h1, inI_of_wf h7, inI_of_wf h8, inI_of_wf h9⟩⟩
end Go.Proofs.YtiljgndgffoloaaGreat
