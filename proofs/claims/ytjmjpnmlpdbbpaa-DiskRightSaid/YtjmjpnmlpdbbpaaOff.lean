/-
  Words of my own, over no dump: readings out of all blocks but those that hold the caller's own variables.
-/
import Derived.Test.YtjmjpnmlpdbbpaaOut
namespace Go.Proofs.Ytjmjpnmlpdbbpaa
open Go.RowKit
set_option linter.unusedVariables false

/-- all blocks that there are, but these. -/
def Off (own : List Nat) (w : World) : Nat → Prop := fun b => b < w.heap.size ∧ b ∉ own
theorem Off.lt {own : List Nat} {w : World} : ∀ b, Off own w b → b < w.heap.size := fun _ h => h.1
theorem Off.lt_of {own : List Nat} {w w' : World} (h : w.heap.size ≤ w'.heap.size) : ∀ b, Off own w b → b < w'.heap.size := fun _ h' => Nat.lt_of_lt_of_le h'.1 h
theorem Off.ret {own : List Nat} {w w' : World} (ho : ∀ g ∈ own, g < w.heap.size) (hs : w.heap.size ≤ w'.heap.size) : ∀ b, Out (Off own w) w w' b → Off own w' b := fun b h => by
  rcases h with h | h
  · exact ⟨Nat.lt_of_lt_of_le h.1 hs, h.2⟩
  · exact ⟨h.2, fun hm => by have := ho b hm; omega⟩
theorem Off.grow {own : List Nat} {w w' : World} (hs : w.heap.size ≤ w'.heap.size) : ∀ b, Off own w b → Off own w' b := fun b h => ⟨Nat.lt_of_lt_of_le h.1 hs, h.2⟩
theorem Off.cons {own : List Nat} {w w' : World} (hs : w.heap.size ≤ w'.heap.size) {g : Nat} (hg : w.heap.size ≤ g) : ∀ b, Off own w b → Off (g :: own) w' b := fun b h =>
  ⟨Nat.lt_of_lt_of_le h.1 hs, fun hm => by
    rcases List.mem_cons.1 hm with e | hm
    · have := h.1; omega
    · exact h.2 hm⟩

section
variable {own : List Nat} {w w' : World} {A : Option Addr} {fs : List FileD} {bs : List Nat}
theorem FilesIn.off (h : FilesIn w (Lt w.heap.size) A fs) : FilesIn w (Off [] w) A fs := h.more (fun b h => ⟨h, by simp⟩)
theorem FilesIn.ret (h : FilesIn w' (Out (Off own w) w w') A fs) (ho : ∀ g ∈ own, g < w.heap.size) (hs : w.heap.size ≤ w'.heap.size) : FilesIn w' (Off own w') A fs := h.more (Off.ret ho hs)
theorem FilesIn.grow (h : FilesIn w (Off own w) A fs) (hb : Below w.heap.size w w') : FilesIn w' (Off own w') A fs := (h.below Off.lt hb).more (Off.grow hb.size)
/-- a block was made, and it is one of the caller's own. -/
theorem FilesIn.mine (h : FilesIn w (Off own w) A fs) (o : Obj) : FilesIn (w.alloc o) (Off (w.heap.size :: own) (w.alloc o)) A fs :=
  (h.below Off.lt ((Below.refl _ _).alloc (Nat.le_refl _) o)).more (Off.cons (by simp) (Nat.le_refl _))
theorem FilesIn.alloc (h : FilesIn w (Off own w) A fs) (o : Obj) : FilesIn (w.alloc o) (Off own (w.alloc o)) A fs := h.grow ((Below.refl _ _).alloc (Nat.le_refl _) o)
theorem FilesIn.set4 (h : FilesIn w (Off own w) A fs) {g : Nat} (hg : g ∈ own) (v0 v1 v2 v3 : Value) :
    FilesIn ((((w.setCell ⟨g, 0, none⟩ v0).setCell ⟨g, 1, none⟩ v1).setCell ⟨g, 2, none⟩ v2).setCell ⟨g, 3, none⟩ v3) (Off own ((((w.setCell ⟨g, 0, none⟩ v0).setCell ⟨g, 1, none⟩ v1).setCell ⟨g, 2, none⟩ v2).setCell ⟨g, 3, none⟩ v3)) A fs :=
  Elems.keep keeps_file h (alike_set4 (fun hn => hn.2 hg) _ _ _ _) (Off.grow (by rw [size_set4]; exact Nat.le_refl _))
theorem FilesIn.drew (h : FilesIn w (Off own w) A fs) : FilesIn w.drew (Off own w.drew) A fs := h
theorem FilesIn.drewN (h : FilesIn w (Off own w) A fs) (m : Nat) : FilesIn (w.drewN m) (Off own (w.drewN m)) A fs := Elems.keep keeps_file h (fun _ _ _ => rfl) (fun _ h => h)
theorem BysIn.off (h : BysIn w (Lt w.heap.size) A bs) : BysIn w (Off [] w) A bs := IntsIn.keep h (alike_refl _ _) (fun b h => ⟨h, by simp⟩)
theorem BysIn.ret (h : BysIn w' (Out (Off own w) w w') A bs) (ho : ∀ g ∈ own, g < w.heap.size) (hs : w.heap.size ≤ w'.heap.size) : BysIn w' (Off own w') A bs := IntsIn.keep h (alike_refl _ _) (Off.ret ho hs)
theorem BysIn.grow (h : BysIn w (Off own w) A bs) (hb : Below w.heap.size w w') : BysIn w' (Off own w') A bs := IntsIn.keep h (below_alikeS hb Off.lt) (Off.grow hb.size)
theorem BysIn.mine (h : BysIn w (Off own w) A bs) (o : Obj) : BysIn (w.alloc o) (Off (w.heap.size :: own) (w.alloc o)) A bs :=
  IntsIn.keep h (below_alikeS ((Below.refl _ _).alloc (Nat.le_refl _) o) Off.lt) (Off.cons (by simp) (Nat.le_refl _))
theorem BysIn.set4 (h : BysIn w (Off own w) A bs) {g : Nat} (hg : g ∈ own) (v0 v1 v2 v3 : Value) :
    BysIn ((((w.setCell ⟨g, 0, none⟩ v0).setCell ⟨g, 1, none⟩ v1).setCell ⟨g, 2, none⟩ v2).setCell ⟨g, 3, none⟩ v3) (Off own ((((w.setCell ⟨g, 0, none⟩ v0).setCell ⟨g, 1, none⟩ v1).setCell ⟨g, 2, none⟩ v2).setCell ⟨g, 3, none⟩ v3)) A bs :=
  IntsIn.keep h (alike_set4 (fun hn => hn.2 hg) _ _ _ _) (Off.grow (by rw [size_set4]; exact Nat.le_refl _))
end

end Go.Proofs.Ytjmjpnmlpdbbpaa
