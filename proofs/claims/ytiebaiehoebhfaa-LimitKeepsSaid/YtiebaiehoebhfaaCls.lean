/-
  Cells one behind the other in memory.
-/
import Derived.Test.YtiebaiehoebhfaaCellEq
import Derived.Test.YtiebaiehoebhfaaElems
namespace Go.Proofs.Ytiebaiehoebhfaa
open Go.RowKit
set_option linter.unusedVariables false

theorem keeps_cell : Keeps rdCell := fun _ _ _ _ _ _ h _ _ => h
abbrev Cls (w : World) (B : Nat) (A : Option Addr) (l : List cell.Ce) : Prop := Elems rdCell 4 w (Lt B) A l
theorem Cls.below {w w' : World} {B : Nat} {A : Option Addr} {l : List cell.Ce} (h : Cls w B A l) (hb : Below B w w') : Cls w' B A l := Elems.keep keeps_cell h (below_alike hb) (fun _ h => h)
theorem Cls.more {w : World} {B B' : Nat} {A : Option Addr} {l : List cell.Ce} (h : Cls w B A l) (hb : B ≤ B') : Cls w B' A l := Elems.keep keeps_cell h (alike_refl _ _) (fun _ h => Nat.lt_of_lt_of_le h hb)
theorem Cls.drewN {w : World} {B : Nat} {A : Option Addr} {l : List cell.Ce} (h : Cls w B A l) (m : Nat) : Cls (w.drewN m) B A l := h
/-- what one of them is, cell by cell. -/
theorem Cls.at_ {w : World} {B : Nat} {A : Option Addr} {l : List cell.Ce} (h : Cls w B A l) {j : Nat} (hj : j < l.length) :
    ∃ b off p bu s n, A = some ⟨b, off, none⟩ ∧ b < B ∧ Hid (l[j]? = some ⟨p, bu, s, n⟩) ∧
      w.cell? ⟨b, off + j * 4, none⟩ = some (.int .i64 p) ∧ w.cell? ⟨b, off + j * 4 + 1, none⟩ = some (.int .i64 bu) ∧ w.cell? ⟨b, off + j * 4 + 2, none⟩ = some (.int .i64 s) ∧
      w.cell? ⟨b, off + j * 4 + 3, none⟩ = some (.int .i64 n) ∧ Hid ((⟨p, bu, s, n⟩ : cell.Ce).fine) := by
  obtain ⟨b, off, e, hb, hc⟩ := h (by omega)
  obtain ⟨cs, hl, hcs, rfl, hf⟩ := hc j l[j] (List.getElem?_eq_getElem hj)
  exact ⟨b, off, _, _, _, _, e, hb, Lib.hid (List.getElem?_eq_getElem hj), hcs 0 _ rfl, hcs 1 _ rfl, hcs 2 _ rfl, hcs 3 _ rfl, Lib.hid hf⟩
theorem Cls.fine {w : World} {B : Nat} {A : Option Addr} {l : List cell.Ce} (h : Cls w B A l) : ∀ f ∈ l, f.fine := by
  intro f hf
  obtain ⟨j, hj, rfl⟩ := List.getElem_of_mem hf
  obtain ⟨b, off, e, hb, hc⟩ := h (by omega)
  obtain ⟨cs, hl, hcs, _, hf⟩ := hc j l[j] (List.getElem?_eq_getElem hj)
  exact hf
theorem Cls.take {w : World} {B : Nat} {A : Option Addr} {l : List cell.Ce} (h : Cls w B A l) (m : Nat) : Cls w B A (l.take m) := fun h0 => by
  obtain ⟨b, off, e, hb, hc⟩ := h (by rw [List.length_take] at h0; omega)
  refine ⟨b, off, e, hb, fun j x hj => hc j x ?_⟩
  rw [List.getElem?_take] at hj
  split at hj
  · exact hj
  · cases hj
theorem flat4 : ∀ (l : List cell.Ce) (j : Nat) (x : cell.Ce) (i : Nat) (v : Value), l[j]? = some x → (cell.cc x).toList[i]? = some v → ((l.map fun c => (cell.cc c).toList).flatten)[j * 4 + i]? = some v
  | [], j, x, i, v, h, _ => by simp at h
  | y :: l, 0, x, i, v, h, g => by
    simp only [List.getElem?_cons_zero, Option.some.injEq] at h
    subst h
    rw [List.map_cons, List.flatten_cons, Nat.zero_mul, Nat.zero_add, List.getElem?_append_left]
    · exact g
    · exact (List.getElem?_eq_some_iff.1 g).1
  | y :: l, j + 1, x, i, v, h, g => by
    simp only [List.getElem?_cons_succ] at h
    rw [List.map_cons, List.flatten_cons, List.getElem?_append_right (by simp [cell.cc]; omega)]
    have := flat4 l j x i v h g
    rw [← this]
    congr 1
    simp [cell.cc]
    omega
/-- cells that a block holds whole. -/
theorem cls_block {W : World} {g : Nat} {cs : Array Value} {T : TypeId} (h : W.heap[g]? = some (.cells cs T (0, 0))) (l : List cell.Ce) (hc : cs.toList = (l.map fun c => (cell.cc c).toList).flatten) (hf : ∀ c ∈ l, c.fine) : Cls W W.heap.size (some ⟨g, 0, none⟩) l := fun h0 => by
  refine ⟨g, 0, rfl, (Array.getElem?_eq_some_iff.1 h).1, fun j x hx => ⟨(cell.cc x).toList, rfl, fun i v hv => ?_, rfl, hf x (List.mem_of_getElem? hx)⟩⟩
  have := flat4 l j x i v hx hv
  rw [← hc] at this
  have h2 := (block_cell h (j * 4 + i) v (by simpa using this)).1
  simpa using h2

end Go.Proofs.Ytiebaiehoebhfaa
