/-
  Two orders are compared; how api's orders read.
-/
import Derived.Test.YtkpapjdlpjjmbaaRows
import Derived.Test.YtkpapjdlpjjmbaaOrdMath
import Derived.Test.YtkpapjdlpjjmbaaRet
import Derived.Test.YtkpapjdlpjjmbaaElems
import Derived.Test.YtkpapjdlpjjmbaaRead
namespace Go.Proofs.Ytkpapjdlpjjmbaa.order
open Go.RowKit Go.Proofs.Ytkpapjdlpjjmbaa
open Go.Proofs.Ytkpapjdlpjjmbaa.frame (inR)
open Go.Proofs.Ytkpapjdlpjjmbaa.rec (wf64)
set_option linter.unusedVariables false

/-- an order, a note, as the program holds them. -/
def oc (o : Or) : Array Value := #[.int .i64 o.i, .int .i64 o.a, .int .i64 o.y, .int .i64 o.d, .int .i64 o.q, .int .i64 o.p, .int .i64 o.f, .int .i64 o.h, .int .i64 o.m, .int .i64 o.r, .int .i64 o.v, .bool o.g]
theorem run_eq12 (x x2 : Or) (hf : x.fine) (hg : x2.fine) (W : World) :
    (Op.equalIn 10000 25 (.agg (oc x)) (.agg (oc x2))).run Try.prog W = .ok (decide (x = x2)) W := by
  have c1 : Try.prog.cellsOf 2 = 1 := by kernel_rfl
  have c3 : Try.prog.cellsOf 3 = 1 := by kernel_rfl
  have cb : Try.prog.cellsOf 4 = 1 := by kernel_rfl
  have kl : ∀ f : Or, f.fine → Try.prog.keyLits 3 25 (oc f).toList = some [.int .i64 f.i, .int .i64 f.a, .int .i64 f.y, .int .i64 f.d, .int .i64 f.q, .int .i64 f.p, .int .i64 f.f, .int .i64 f.h, .int .i64 f.m, .int .i64 f.r, .int .i64 f.v, .bool f.g] := fun f ⟨h0, h1, h2, h3, h4, h5, h6, h7, h8, h9, h10⟩ => by
    rw [kl_struct 2 _ Try.underlying25 (by kernel_rfl) (by kernel_rfl)]
    simp [oc, c1, c3, cb, kl_int 1 _ Try.underlying2, kl_int 1 _ Try.underlying3, kl_bool 1 _ Try.underlying4, wf64 h0, wf64 h1, wf64 h2, wf64 h3, wf64 h4, wf64 h5, wf64 h6, wf64 h7, wf64 h8, wf64 h9, wf64 h10]
  refine run_eq_by (by kernel_rfl) 3 (by kernel_rfl) (by kernel_rfl) (kl x hf) (kl x2 hg) _ ?_ W
  obtain ⟨i, a, y, d, q, p, f, h, m, r, v, g⟩ := x
  obtain ⟨i', a', y', d', q', p', f', h', m', r', v', g'⟩ := x2
  simp
theorem eq12_of {i a y d q p f h m r v : Int} {g : Bool} {i' a' y' d' q' p' f' h' m' r' v' : Int} {g' : Bool} {x z : Or} {b : Bool} (e : (⟨i, a, y, d, q, p, f, h, m, r, v, g⟩ : Or) = x) (e' : (⟨i', a', y', d', q', p', f', h', m', r', v', g'⟩ : Or) = z) (hf : x.fine) (hg : z.fine) (hr : decide (x = z) = b) (W : World) :
    (Op.equalIn 10000 25 (.agg #[.int .i64 i, .int .i64 a, .int .i64 y, .int .i64 d, .int .i64 q, .int .i64 p, .int .i64 f, .int .i64 h, .int .i64 m, .int .i64 r, .int .i64 v, .bool g]) (.agg #[.int .i64 i', .int .i64 a', .int .i64 y', .int .i64 d', .int .i64 q', .int .i64 p', .int .i64 f', .int .i64 h', .int .i64 m', .int .i64 r', .int .i64 v', .bool g'])).run Try.prog W = .ok b W := by
  subst e e'
  rw [← hr]
  exact run_eq12 ⟨i, a, y, d, q, p, f, h, m, r, v, g⟩ ⟨i', a', y', d', q', p', f', h', m', r', v', g'⟩ hf hg W
theorem cells12 {W : World} {b : Nat} {T : TypeId} {i a y d q p f h m r v : Int} {g : Bool} (e : W.heap[b]? = some (.cells #[.int .i64 i, .int .i64 a, .int .i64 y, .int .i64 d, .int .i64 q, .int .i64 p, .int .i64 f, .int .i64 h, .int .i64 m, .int .i64 r, .int .i64 v, .bool g] T (0, 0))) :
    W.cell? ⟨b, 0, none⟩ = some (.int .i64 i) ∧ W.cell? ⟨b, 1, none⟩ = some (.int .i64 a) ∧ W.cell? ⟨b, 2, none⟩ = some (.int .i64 y) ∧ W.cell? ⟨b, 3, none⟩ = some (.int .i64 d) ∧ W.cell? ⟨b, 4, none⟩ = some (.int .i64 q) ∧ W.cell? ⟨b, 5, none⟩ = some (.int .i64 p) ∧ W.cell? ⟨b, 6, none⟩ = some (.int .i64 f) ∧ W.cell? ⟨b, 7, none⟩ = some (.int .i64 h) ∧ W.cell? ⟨b, 8, none⟩ = some (.int .i64 m) ∧ W.cell? ⟨b, 9, none⟩ = some (.int .i64 r) ∧ W.cell? ⟨b, 10, none⟩ = some (.int .i64 v) ∧ W.cell? ⟨b, 11, none⟩ = some (.bool g) :=
  ⟨(block_cell e 0 _ rfl).1, (block_cell e 1 _ rfl).1, (block_cell e 2 _ rfl).1, (block_cell e 3 _ rfl).1, (block_cell e 4 _ rfl).1, (block_cell e 5 _ rfl).1, (block_cell e 6 _ rfl).1, (block_cell e 7 _ rfl).1, (block_cell e 8 _ rfl).1, (block_cell e 9 _ rfl).1, (block_cell e 10 _ rfl).1, (block_cell e 11 _ rfl).1⟩
theorem cells5 {W : World} {g : Nat} {T : TypeId} {a b c d e : Int} (h : W.heap[g]? = some (.cells #[.int .i64 a, .int .i64 b, .int .i64 c, .int .i64 d, .int .i64 e] T (0, 0))) :
    W.cell? ⟨g, 0, none⟩ = some (.int .i64 a) ∧ W.cell? ⟨g, 1, none⟩ = some (.int .i64 b) ∧ W.cell? ⟨g, 2, none⟩ = some (.int .i64 c) ∧ W.cell? ⟨g, 3, none⟩ = some (.int .i64 d) ∧ W.cell? ⟨g, 4, none⟩ = some (.int .i64 e) :=
  ⟨(block_cell h 0 _ rfl).1, (block_cell h 1 _ rfl).1, (block_cell h 2 _ rfl).1, (block_cell h 3 _ rfl).1, (block_cell h 4 _ rfl).1⟩

end Go.Proofs.Ytkpapjdlpjjmbaa.order
namespace Go.Proofs.Ytkpapjdlpjjmbaa
open Go.RowKit
set_option linter.unusedVariables false
abbrev OrderD : Type := order.Or
def rdOrder : Rd OrderD := fun _ _ cs o => cs = (order.oc o).toList ∧ o.fine
theorem of_order : OfTrod Try.prog 25 rdOrder := fun H enc w fuel cs x h => by
  have hl := struct_len Try.underlying25 h
  rw [show Try.prog.cellsOf 25 = 12 by kernel_rfl] at hl
  obtain ⟨i, e0, h0⟩ := of_field Try.underlying25 h 0 _ rfl 1 (by kernel_rfl) (of_int Try.underlying2)
  obtain ⟨a, e1, h1⟩ := of_field Try.underlying25 h 1 _ rfl 1 (by kernel_rfl) (of_int Try.underlying3)
  obtain ⟨y, e2, h2⟩ := of_field Try.underlying25 h 2 _ rfl 1 (by kernel_rfl) (of_int Try.underlying3)
  obtain ⟨d, e3, h3⟩ := of_field Try.underlying25 h 3 _ rfl 1 (by kernel_rfl) (of_int Try.underlying3)
  obtain ⟨q, e4, h4⟩ := of_field Try.underlying25 h 4 _ rfl 1 (by kernel_rfl) (of_int Try.underlying2)
  obtain ⟨p, e5, h5⟩ := of_field Try.underlying25 h 5 _ rfl 1 (by kernel_rfl) (of_int Try.underlying2)
  obtain ⟨f, e6, h6⟩ := of_field Try.underlying25 h 6 _ rfl 1 (by kernel_rfl) (of_int Try.underlying2)
  obtain ⟨ph, e7, h7⟩ := of_field Try.underlying25 h 7 _ rfl 1 (by kernel_rfl) (of_int Try.underlying3)
  obtain ⟨m, e8, h8⟩ := of_field Try.underlying25 h 8 _ rfl 1 (by kernel_rfl) (of_int Try.underlying2)
  obtain ⟨r, e9, h9⟩ := of_field Try.underlying25 h 9 _ rfl 1 (by kernel_rfl) (of_int Try.underlying2)
  obtain ⟨v, e10, h10⟩ := of_field Try.underlying25 h 10 _ rfl 1 (by kernel_rfl) (of_int Try.underlying2)
  obtain ⟨g, e11⟩ := of_field Try.underlying25 h 11 _ rfl 1 (by kernel_rfl) (of_bool Try.underlying4)
  match cs, hl with
  | [c0, c1, c2, c3, c4, c5, c6, c7, c8, c9, c10, c11], _ =>
    simp [rdBool] at e0 e1 e2 e3 e4 e5 e6 e7 e8 e9 e10 e11
    subst e0 e1 e2 e3 e4 e5 e6 e7 e8 e9 e10 e11
    exact ⟨⟨i, a, y, d, q, p, f, ph, m, r, v, g⟩, rfl, inI_of_wf h0, inI_of_wf h1, inI_of_wf h2, inI_of_wf h3, inI_of_wf h4, inI_of_wf h5, inI_of_wf h6, inI_of_wf h7, inI_of_wf h8, inI_of_wf h9, inI_of_wf h10⟩

end Go.Proofs.Ytkpapjdlpjjmbaa
