/-
  How api's records and notes read, over this program's own types.
-/
import Derived.Test.YtkpapjdlpjjmbaaRows
import Derived.Test.YtkpapjdlpjjmbaaRead
import Derived.Test.YtkpapjdlpjjmbaaRecEq
namespace Go.Proofs.Ytkpapjdlpjjmbaa
open Go.RowKit
set_option linter.unusedVariables false

abbrev RecD : Type := rec.Rc
def rdRec : Rd RecD := fun _ _ cs r => cs = (rec.rc r).toList ∧ r.fine
theorem of_rec : OfTrod Try.prog 61 rdRec := fun H enc w fuel cs x h => by
  have hl := struct_len Try.underlying61 h
  rw [show Try.prog.cellsOf 61 = 13 by kernel_rfl] at hl
  obtain ⟨k, e0, h0⟩ := of_field Try.underlying61 h 0 _ rfl 1 (by kernel_rfl) (of_int Try.underlying3)
  obtain ⟨o, e1, h1⟩ := of_field Try.underlying61 h 1 _ rfl 1 (by kernel_rfl) (of_int Try.underlying2)
  obtain ⟨a, e2, h2⟩ := of_field Try.underlying61 h 2 _ rfl 1 (by kernel_rfl) (of_int Try.underlying3)
  obtain ⟨y, e3, h3⟩ := of_field Try.underlying61 h 3 _ rfl 1 (by kernel_rfl) (of_int Try.underlying3)
  obtain ⟨d, e4, h4⟩ := of_field Try.underlying61 h 4 _ rfl 1 (by kernel_rfl) (of_int Try.underlying3)
  obtain ⟨q, e5, h5⟩ := of_field Try.underlying61 h 5 _ rfl 1 (by kernel_rfl) (of_int Try.underlying2)
  obtain ⟨p, e6, h6⟩ := of_field Try.underlying61 h 6 _ rfl 1 (by kernel_rfl) (of_int Try.underlying2)
  obtain ⟨l, e7, h7⟩ := of_field Try.underlying61 h 7 _ rfl 1 (by kernel_rfl) (of_int Try.underlying2)
  obtain ⟨s, e8, h8⟩ := of_field Try.underlying61 h 8 _ rfl 1 (by kernel_rfl) (of_int Try.underlying2)
  obtain ⟨n, e9, h9⟩ := of_field Try.underlying61 h 9 _ rfl 1 (by kernel_rfl) (of_int Try.underlying2)
  obtain ⟨on, e10⟩ := of_field Try.underlying61 h 10 _ rfl 1 (by kernel_rfl) (of_bool Try.underlying4)
  obtain ⟨z, e11, h11⟩ := of_field Try.underlying61 h 11 _ rfl 1 (by kernel_rfl) (of_int Try.underlying2)
  obtain ⟨t, e12, h12⟩ := of_field Try.underlying61 h 12 _ rfl 1 (by kernel_rfl) (of_int Try.underlying3)
  match cs, hl with
  | [c0, c1, c2, c3, c4, c5, c6, c7, c8, c9, c10, c11, c12], _ =>
    simp [rdBool] at e0 e1 e2 e3 e4 e5 e6 e7 e8 e9 e10 e11 e12
    subst e0 e1 e2 e3 e4 e5 e6 e7 e8 e9 e10 e11 e12
    exact ⟨⟨k, o, a, y, d, q, p, l, s, n, on, z, t⟩, rfl, inI_of_wf h0, inI_of_wf h1, inI_of_wf h2, inI_of_wf h3, inI_of_wf h4, inI_of_wf h5, inI_of_wf h6, inI_of_wf h7, inI_of_wf h8, inI_of_wf h9, inI_of_wf h11, inI_of_wf h12⟩

/-- a note: its number, what it is, its order, how much, at which price. -/
structure NoteD where
  (z t o q p : Int)
  deriving DecidableEq
def nt (n : NoteD) : Array Value := #[.int .i64 n.z, .int .i64 n.t, .int .i64 n.o, .int .i64 n.q, .int .i64 n.p]
def NoteD.fine (n : NoteD) : Prop := frame.inR n.z ∧ frame.inR n.t ∧ frame.inR n.o ∧ frame.inR n.q ∧ frame.inR n.p
def rdNote : Rd NoteD := fun _ _ cs r => cs = (nt r).toList ∧ r.fine
theorem of_note : OfTrod Try.prog 47 rdNote := fun H enc w fuel cs x h => by
  have hl := struct_len Try.underlying47 h
  rw [show Try.prog.cellsOf 47 = 5 by kernel_rfl] at hl
  obtain ⟨k, e0, h0⟩ := of_field Try.underlying47 h 0 _ rfl 1 (by kernel_rfl) (of_int Try.underlying2)
  obtain ⟨o, e1, h1⟩ := of_field Try.underlying47 h 1 _ rfl 1 (by kernel_rfl) (of_int Try.underlying3)
  obtain ⟨a, e2, h2⟩ := of_field Try.underlying47 h 2 _ rfl 1 (by kernel_rfl) (of_int Try.underlying2)
  obtain ⟨y, e3, h3⟩ := of_field Try.underlying47 h 3 _ rfl 1 (by kernel_rfl) (of_int Try.underlying2)
  obtain ⟨d, e4, h4⟩ := of_field Try.underlying47 h 4 _ rfl 1 (by kernel_rfl) (of_int Try.underlying2)
  match cs, hl with
  | [c0, c1, c2, c3, c4], _ =>
    simp at e0 e1 e2 e3 e4
    subst e0 e1 e2 e3 e4
    exact ⟨⟨k, o, a, y, d⟩, rfl, inI_of_wf h0, inI_of_wf h1, inI_of_wf h2, inI_of_wf h3, inI_of_wf h4⟩
/-- six numbers in a row. -/
def rdSix : Rd rec.Ns := fun _ _ cs b => cs = (rec.nc b).toList ∧ b.fine
theorem six_of {w : World} {S : Nat → Prop} {cs : List Value} {xs : List Int} (h : rdArr (rdInt .i64) 6 1 w S cs xs) : ∃ b : rec.Ns, cs = (rec.nc b).toList ∧ b.fine := by
  obtain ⟨hl, a2, a3⟩ := h
  match cs, hl, xs, a2 with
  | [c0, c1, c2, c3, c4, c5], _, [b0, b1, b2, b3, b4, b5], _ =>
    obtain ⟨q0, w0⟩ := a3 0 b0 rfl
    obtain ⟨q1, w1⟩ := a3 1 b1 rfl
    obtain ⟨q2, w2⟩ := a3 2 b2 rfl
    obtain ⟨q3, w3⟩ := a3 3 b3 rfl
    obtain ⟨q4, w4⟩ := a3 4 b4 rfl
    obtain ⟨q5, w5⟩ := a3 5 b5 rfl
    simp at q0 q1 q2 q3 q4 q5
    subst q0 q1 q2 q3 q4 q5
    exact ⟨⟨b0, b1, b2, b3, b4, b5⟩, rfl, inI_of_wf w0, inI_of_wf w1, inI_of_wf w2, inI_of_wf w3, inI_of_wf w4, inI_of_wf w5⟩

end Go.Proofs.Ytkpapjdlpjjmbaa
