/-
  Words of my own, over no dump: what a call hands back reads out of what it was given, and of blocks of its own; a struct of four cells in a block.
-/
import Derived.Test.YtjmjpnmlpdbbpaaDisk
import Derived.Test.YtjmjpnmlpdbbpaaElems
namespace Go.Proofs.Ytjmjpnmlpdbbpaa
open Go.RowKit
set_option linter.unusedVariables false

/-- the blocks of which S holds, and those that a call made. -/
def Out (S : Nat → Prop) (w w' : World) : Nat → Prop := fun b => S b ∨ (w.heap.size ≤ b ∧ b < w'.heap.size)
theorem Out.lt {S : Nat → Prop} {w w' : World} (hS : ∀ b, S b → b < w.heap.size) (hs : w.heap.size ≤ w'.heap.size) : ∀ b, Out S w w' b → b < w'.heap.size := fun b h => by
  rcases h with h | h
  · have := hS b h; omega
  · exact h.2
theorem Out.mk {S : Nat → Prop} {w w' : World} : ∀ b, S b → Out S w w' b := fun _ h => .inl h
/-- what a call within the call made is its own. -/
theorem Out.widen {S : Nat → Prop} {w w1 w2 w3 : World} (h1 : w.heap.size ≤ w1.heap.size) (h2 : w2.heap.size ≤ w3.heap.size) : ∀ b, Out S w1 w2 b → Out S w w3 b := fun b h => by
  rcases h with h | h
  · exact .inl h
  · exact .inr ⟨by omega, by omega⟩
theorem Out.again {S : Nat → Prop} {w w1 w2 w3 w4 : World} (h1 : w.heap.size ≤ w1.heap.size) (h2 : w2.heap.size ≤ w4.heap.size) (h3 : w.heap.size ≤ w2.heap.size) (h4 : w3.heap.size ≤ w4.heap.size) (h5 : w.heap.size ≤ w2.heap.size) (h6 : w2.heap.size ≤ w3.heap.size) : ∀ b, Out (Out S w1 w2) w2 w3 b → Out S w w4 b := fun b h => by
  rcases h with (h | h) | h
  · exact .inl h
  · exact .inr ⟨by omega, by omega⟩
  · exact .inr ⟨by omega, by omega⟩

theorem below_alikeS {S : Nat → Prop} {B : Nat} {w w' : World} (h : Below B w w') (hS : ∀ b, S b → b < B) : Alike S w w' := fun b o hb => h.cell (p := ⟨b, o, none⟩) (hS b hb)
theorem BysIn.below {S : Nat → Prop} {B : Nat} {w w' : World} {A : Option Addr} {bs : List Nat} (h : BysIn w S A bs) (hS : ∀ b, S b → b < B) (hb : Below B w w') : BysIn w' S A bs := IntsIn.keep h (below_alikeS hb hS) (fun _ h => h)
theorem FilesIn.below {S : Nat → Prop} {B : Nat} {w w' : World} {A : Option Addr} {fs : List FileD} (h : FilesIn w S A fs) (hS : ∀ b, S b → b < B) (hb : Below B w w') : FilesIn w' S A fs := Elems.keep keeps_file h (below_alikeS hb hS) (fun _ h => h)
theorem FilesIn.more {S S' : Nat → Prop} {w : World} {A : Option Addr} {fs : List FileD} (h : FilesIn w S A fs) (hS : ∀ b, S b → S' b) : FilesIn w S' A fs := Elems.keep keeps_file h (alike_refl _ _) hS
theorem FilesIn.files {S : Nat → Prop} {B : Nat} {w w' : World} {A : Option Addr} {fs : List FileD} (h : FilesIn w S A fs) (hS : ∀ b, S b → b < B) (hb : Below B w w') : Files w' B A fs := (h.below hS hb).more hS
theorem FilesIn.at_ {w : World} {S : Nat → Prop} {A : Option Addr} {fs : List FileD} (h : FilesIn w S A fs) {j : Nat} (hj : j < fs.length) :
    ∃ b off f A' n c, A = some ⟨b, off, none⟩ ∧ S b ∧ Hid (fs[j]? = some f) ∧ w.cell? ⟨b, off + j * 3, none⟩ = some (.string f.name) ∧ w.cell? ⟨b, off + j * 3 + 1, none⟩ = some (.slice A' n c) ∧ w.cell? ⟨b, off + j * 3 + 2, none⟩ = some (.int .i64 f.sure) ∧
      f.name.size ≤ maxLen ∧ BysIn w S A' f.data ∧ Hid (f.data.length = n) ∧ n ≤ c ∧ c ≤ maxLen ∧ inI f.sure := by
  obtain ⟨b, off, e, hb, hc⟩ := h (by omega)
  obtain ⟨cs, hl, hcs, A', n, c, rfl, h1, h2, h3, h4, h5, h6⟩ := hc j fs[j] (List.getElem?_eq_getElem hj)
  exact ⟨b, off, fs[j], A', n, c, e, hb, Lib.hid (List.getElem?_eq_getElem hj), hcs 0 _ rfl, hcs 1 _ rfl, hcs 2 _ rfl, h1, h2, Lib.hid h3, h4, h5, inI_of_wf h6⟩

theorem heap_set4 {w : World} {g b : Nat} (v0 v1 v2 v3 : Value) (h : b ≠ g) : ((((w.setCell ⟨g, 0, none⟩ v0).setCell ⟨g, 1, none⟩ v1).setCell ⟨g, 2, none⟩ v2).setCell ⟨g, 3, none⟩ v3).heap[b]? = w.heap[b]? := by
  rw [Below.heap_setCell _ _ _ _ h, Below.heap_setCell _ _ _ _ h, Below.heap_setCell _ _ _ _ h, Below.heap_setCell _ _ _ _ h]
theorem heap_set4_self {w : World} {g : Nat} {a0 a1 a2 a3 : Value} {T : TypeId} (v0 v1 v2 v3 : Value) (h : w.heap[g]? = some (.cells #[a0, a1, a2, a3] T (0, 0))) :
    ((((w.setCell ⟨g, 0, none⟩ v0).setCell ⟨g, 1, none⟩ v1).setCell ⟨g, 2, none⟩ v2).setCell ⟨g, 3, none⟩ v3).heap[g]? = some (.cells #[v0, v1, v2, v3] T (0, 0)) := by
  have h0 := heap_setCell_same w g 0 _ T v0 h
  have h1 := heap_setCell_same _ g 1 _ T v1 h0
  have h2 := heap_setCell_same _ g 2 _ T v2 h1
  exact heap_setCell_same _ g 3 _ T v3 h2
theorem heap_set3_self {w : World} {g : Nat} {a0 a1 a2 : Value} {T : TypeId} (v0 v1 v2 : Value) (h : w.heap[g]? = some (.cells #[a0, a1, a2] T (0, 0))) :
    (((w.setCell ⟨g, 0, none⟩ v0).setCell ⟨g, 1, none⟩ v1).setCell ⟨g, 2, none⟩ v2).heap[g]? = some (.cells #[v0, v1, v2] T (0, 0)) := by
  have h0 := heap_setCell_same w g 0 _ T v0 h
  have h1 := heap_setCell_same _ g 1 _ T v1 h0
  exact heap_setCell_same _ g 2 _ T v2 h1
theorem heap_set3 {w : World} {g b : Nat} (v0 v1 v2 : Value) (h : b ≠ g) : (((w.setCell ⟨g, 0, none⟩ v0).setCell ⟨g, 1, none⟩ v1).setCell ⟨g, 2, none⟩ v2).heap[b]? = w.heap[b]? := by
  rw [Below.heap_setCell _ _ _ _ h, Below.heap_setCell _ _ _ _ h, Below.heap_setCell _ _ _ _ h]
theorem below_set4 {B : Nat} {w0 w : World} {g : Nat} (hb : Below B w0 w) (h : B ≤ g) (v0 v1 v2 v3 : Value) : Below B w0 ((((w.setCell ⟨g, 0, none⟩ v0).setCell ⟨g, 1, none⟩ v1).setCell ⟨g, 2, none⟩ v2).setCell ⟨g, 3, none⟩ v3) :=
  (((hb.setCell (p := ⟨g, 0, none⟩) h _).setCell (p := ⟨g, 1, none⟩) h _).setCell (p := ⟨g, 2, none⟩) h _).setCell (p := ⟨g, 3, none⟩) h _
theorem below_set3 {B : Nat} {w0 w : World} {g : Nat} (hb : Below B w0 w) (h : B ≤ g) (v0 v1 v2 : Value) : Below B w0 (((w.setCell ⟨g, 0, none⟩ v0).setCell ⟨g, 1, none⟩ v1).setCell ⟨g, 2, none⟩ v2) :=
  ((hb.setCell (p := ⟨g, 0, none⟩) h _).setCell (p := ⟨g, 1, none⟩) h _).setCell (p := ⟨g, 2, none⟩) h _
theorem size_set4 (w : World) (g : Nat) (v0 v1 v2 v3 : Value) : ((((w.setCell ⟨g, 0, none⟩ v0).setCell ⟨g, 1, none⟩ v1).setCell ⟨g, 2, none⟩ v2).setCell ⟨g, 3, none⟩ v3).heap.size = w.heap.size := by simp [World.setCell]
theorem size_set3 (w : World) (g : Nat) (v0 v1 v2 : Value) : (((w.setCell ⟨g, 0, none⟩ v0).setCell ⟨g, 1, none⟩ v1).setCell ⟨g, 2, none⟩ v2).heap.size = w.heap.size := by simp [World.setCell]
theorem alike_set4 {S : Nat → Prop} {w : World} {g : Nat} (h : ¬ S g) (v0 v1 v2 v3 : Value) : Alike S w ((((w.setCell ⟨g, 0, none⟩ v0).setCell ⟨g, 1, none⟩ v1).setCell ⟨g, 2, none⟩ v2).setCell ⟨g, 3, none⟩ v3) := fun b o hb =>
  World.cell?_of_block (heap_set4 v0 v1 v2 v3 (fun e => h (e ▸ hb)))

end Go.Proofs.Ytjmjpnmlpdbbpaa
