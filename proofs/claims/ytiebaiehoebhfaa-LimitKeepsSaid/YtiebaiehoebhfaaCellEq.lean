/-
  Cells, and what they may come to, are compared; how api's cells read.
-/
import Derived.Test.YtiebaiehoebhfaaRows
import Derived.Test.YtiebaiehoebhfaaCellMath
import Derived.Test.YtiebaiehoebhfaaRet
import Derived.Test.YtiebaiehoebhfaaElems
import Derived.Test.YtiebaiehoebhfaaRead
namespace Go.Proofs.Ytiebaiehoebhfaa.cell
open Go.RowKit Go.Proofs.Ytiebaiehoebhfaa
open Go.Proofs.Ytiebaiehoebhfaa.frame (inR)
open Go.Proofs.Ytiebaiehoebhfaa.rec (wf64)
set_option linter.unusedVariables false

/-- how it lies in cells. -/
def cc (x : Ce) : Array Value := #[.int .i64 x.p, .int .i64 x.b, .int .i64 x.s, .int .i64 x.n]
theorem run_eq4 (x x2 : Ce) (hf : x.fine) (hg : x2.fine) (W : World) :
    (Op.equalIn 10000 39 (.agg (cc x)) (.agg (cc x2))).run Try.prog W = .ok (decide (x = x2)) W := by
  have c_int64 : Try.prog.cellsOf 2 = 1 := by kernel_rfl
  have kl : ∀ f : Ce, f.fine → Try.prog.keyLits 3 39 (cc f).toList = some [.int .i64 f.p, .int .i64 f.b, .int .i64 f.s, .int .i64 f.n] := fun f ⟨h0, h1, h2, h3⟩ => by
    rw [kl_struct 2 _ Try.underlying39 (by kernel_rfl) (by kernel_rfl)]
    simp [cc, c_int64, kl_int 1 _ Try.underlying2, wf64 h0, wf64 h1, wf64 h2, wf64 h3]
  refine run_eq_by (by kernel_rfl) 3 (by kernel_rfl) (by kernel_rfl) (kl x hf) (kl x2 hg) _ ?_ W
  obtain ⟨p, b, s, n⟩ := x
  obtain ⟨p', b', s', n'⟩ := x2
  simp
theorem eq4_of {p b s n : Int} {p' b' s' n' : Int} {xX zZ : Ce} {rB : Bool} (e : (⟨p, b, s, n⟩ : Ce) = xX) (e' : (⟨p', b', s', n'⟩ : Ce) = zZ) (hf : xX.fine) (hg : zZ.fine) (hr : decide (xX = zZ) = rB) (W : World) :
    (Op.equalIn 10000 39 (.agg #[.int .i64 p, .int .i64 b, .int .i64 s, .int .i64 n]) (.agg #[.int .i64 p', .int .i64 b', .int .i64 s', .int .i64 n'])).run Try.prog W = .ok rB W := by
  subst e e'
  rw [← hr]
  exact run_eq4 ⟨p, b, s, n⟩ ⟨p', b', s', n'⟩ hf hg W
/-- how it lies in cells. -/
def xc (x : Ex) : Array Value := #[.int .i64 x.l, .int .i64 x.s, .int .i64 x.n]
theorem run_eq3 (x x2 : Ex) (hf : x.fine) (hg : x2.fine) (W : World) :
    (Op.equalIn 10000 23 (.agg (xc x)) (.agg (xc x2))).run Try.prog W = .ok (decide (x = x2)) W := by
  have c_int64 : Try.prog.cellsOf 2 = 1 := by kernel_rfl
  have kl : ∀ f : Ex, f.fine → Try.prog.keyLits 3 23 (xc f).toList = some [.int .i64 f.l, .int .i64 f.s, .int .i64 f.n] := fun f ⟨h0, h1, h2⟩ => by
    rw [kl_struct 2 _ Try.underlying23 (by kernel_rfl) (by kernel_rfl)]
    simp [xc, c_int64, kl_int 1 _ Try.underlying2, wf64 h0, wf64 h1, wf64 h2]
  refine run_eq_by (by kernel_rfl) 3 (by kernel_rfl) (by kernel_rfl) (kl x hf) (kl x2 hg) _ ?_ W
  obtain ⟨l, s, n⟩ := x
  obtain ⟨l', s', n'⟩ := x2
  simp
theorem eq3_of {l s n : Int} {l' s' n' : Int} {xX zZ : Ex} {rB : Bool} (e : (⟨l, s, n⟩ : Ex) = xX) (e' : (⟨l', s', n'⟩ : Ex) = zZ) (hf : xX.fine) (hg : zZ.fine) (hr : decide (xX = zZ) = rB) (W : World) :
    (Op.equalIn 10000 23 (.agg #[.int .i64 l, .int .i64 s, .int .i64 n]) (.agg #[.int .i64 l', .int .i64 s', .int .i64 n'])).run Try.prog W = .ok rB W := by
  subst e e'
  rw [← hr]
  exact run_eq3 ⟨l, s, n⟩ ⟨l', s', n'⟩ hf hg W
theorem cells4 {W : World} {gG : Nat} {T : TypeId} {p b s n : Int} (e : W.heap[gG]? = some (.cells #[.int .i64 p, .int .i64 b, .int .i64 s, .int .i64 n] T (0, 0))) :
    W.cell? ⟨gG, 0, none⟩ = some (.int .i64 p) ∧ W.cell? ⟨gG, 1, none⟩ = some (.int .i64 b) ∧ W.cell? ⟨gG, 2, none⟩ = some (.int .i64 s) ∧ W.cell? ⟨gG, 3, none⟩ = some (.int .i64 n) :=
  ⟨(block_cell e 0 _ rfl).1, (block_cell e 1 _ rfl).1, (block_cell e 2 _ rfl).1, (block_cell e 3 _ rfl).1⟩
theorem cells3 {W : World} {gG : Nat} {T : TypeId} {l s n : Int} (e : W.heap[gG]? = some (.cells #[.int .i64 l, .int .i64 s, .int .i64 n] T (0, 0))) :
    W.cell? ⟨gG, 0, none⟩ = some (.int .i64 l) ∧ W.cell? ⟨gG, 1, none⟩ = some (.int .i64 s) ∧ W.cell? ⟨gG, 2, none⟩ = some (.int .i64 n) :=
  ⟨(block_cell e 0 _ rfl).1, (block_cell e 1 _ rfl).1, (block_cell e 2 _ rfl).1⟩

end Go.Proofs.Ytiebaiehoebhfaa.cell
namespace Go.Proofs.Ytiebaiehoebhfaa
open Go.RowKit
set_option linter.unusedVariables false
abbrev CellD : Type := cell.Ce
abbrev ExpoD : Type := cell.Ex
def rdCell : Rd CellD := fun _ _ cs o => cs = (cell.cc o).toList ∧ o.fine
theorem of_cell : OfTrod Try.prog 39 rdCell := fun H enc w fuel cs x h => by
  have hl := struct_len Try.underlying39 h
  rw [show Try.prog.cellsOf 39 = 4 by kernel_rfl] at hl
  obtain ⟨p, e0, h0⟩ := of_field Try.underlying39 h 0 _ rfl 1 (by kernel_rfl) (of_int Try.underlying2)
  obtain ⟨b, e1, h1⟩ := of_field Try.underlying39 h 1 _ rfl 1 (by kernel_rfl) (of_int Try.underlying2)
  obtain ⟨s, e2, h2⟩ := of_field Try.underlying39 h 2 _ rfl 1 (by kernel_rfl) (of_int Try.underlying2)
  obtain ⟨n, e3, h3⟩ := of_field Try.underlying39 h 3 _ rfl 1 (by kernel_rfl) (of_int Try.underlying2)
  match cs, hl with
  | [c0, c1, c2, c3], _ =>
    simp at e0 e1 e2 e3
    subst e0 e1 e2 e3
    exact ⟨⟨p, b, s, n⟩, rfl, inI_of_wf h0, inI_of_wf h1, inI_of_wf h2, inI_of_wf h3⟩
def rdExpo : Rd ExpoD := fun _ _ cs o => cs = (cell.xc o).toList ∧ o.fine
theorem of_expo : OfTrod Try.prog 23 rdExpo := fun H enc w fuel cs x h => by
  have hl := struct_len Try.underlying23 h
  rw [show Try.prog.cellsOf 23 = 3 by kernel_rfl] at hl
  obtain ⟨l, e0, h0⟩ := of_field Try.underlying23 h 0 _ rfl 1 (by kernel_rfl) (of_int Try.underlying2)
  obtain ⟨s, e1, h1⟩ := of_field Try.underlying23 h 1 _ rfl 1 (by kernel_rfl) (of_int Try.underlying2)
  obtain ⟨n, e2, h2⟩ := of_field Try.underlying23 h 2 _ rfl 1 (by kernel_rfl) (of_int Try.underlying2)
  match cs, hl with
  | [c0, c1, c2], _ =>
    simp at e0 e1 e2
    subst e0 e1 e2
    exact ⟨⟨l, s, n⟩, rfl, inI_of_wf h0, inI_of_wf h1, inI_of_wf h2⟩

end Go.Proofs.Ytiebaiehoebhfaa
