/-
  How api's frames read, over this program's own types.
-/
import Derived.Test.YtegbaidnkniccaaRows
import Derived.Test.YtegbaidnkniccaaRead
import Derived.Test.YtegbaidnkniccaaFrameEq
namespace Go.Proofs.Ytegbaidnkniccaa
open Go.RowKit
set_option linter.unusedVariables false

abbrev FrameD : Type := frame.Fr
def rdFrame : Rd FrameD := fun _ _ cs f => cs = (frame.fc f).toList ∧ f.fine
theorem keeps_frame : Keeps rdFrame := fun _ _ _ _ _ _ h _ _ => h
theorem of_frame : OfTrod Try.prog 28 rdFrame := fun H enc w fuel cs x h => by
  have hl := struct_len Try.underlying28 h
  rw [show Try.prog.cellsOf 28 = 9 by kernel_rfl] at hl
  obtain ⟨e, e0, h0⟩ := of_field Try.underlying28 h 0 _ rfl 1 (by kernel_rfl) (of_int Try.underlying2)
  obtain ⟨l, e1, h1⟩ := of_field Try.underlying28 h 1 _ rfl 1 (by kernel_rfl) (of_int Try.underlying2)
  obtain ⟨k, e2, h2⟩ := of_field Try.underlying28 h 2 _ rfl 1 (by kernel_rfl) (of_int Try.underlying3)
  obtain ⟨bs, a1, a2, a3⟩ := of_field Try.underlying28 h 3 _ rfl 6 (by kernel_rfl) (of_arr (n := 6) (size := 1) (of_int Try.underlying2) Try.underlying26 (by kernel_rfl) (by kernel_rfl))
  match cs, hl, bs, a2 with
  | [c0, c1, c2, c3, c4, c5, c6, c7, c8], _, [b0, b1, b2, b3, b4, b5], _ =>
    obtain ⟨q0, w0⟩ := a3 0 b0 rfl
    obtain ⟨q1, w1⟩ := a3 1 b1 rfl
    obtain ⟨q2, w2⟩ := a3 2 b2 rfl
    obtain ⟨q3, w3⟩ := a3 3 b3 rfl
    obtain ⟨q4, w4⟩ := a3 4 b4 rfl
    obtain ⟨q5, w5⟩ := a3 5 b5 rfl
    simp at e0 e1 e2 q0 q1 q2 q3 q4 q5
    subst e0 e1 e2 q0 q1 q2 q3 q4 q5
    exact ⟨⟨e, l, k, b0, b1, b2, b3, b4, b5⟩, rfl, inI_of_wf h0, inI_of_wf h1, inI_of_wf h2, inI_of_wf w0, inI_of_wf w1, inI_of_wf w2, inI_of_wf w3, inI_of_wf w4, inI_of_wf w5⟩

end Go.Proofs.Ytegbaidnkniccaa
