/-
  Words of my own, over no dump: what came as an argument reads in every later world.
-/
import Derived.Test.YtjmjpnmlpdbbpaaOff
namespace Go.Proofs.Ytjmjpnmlpdbbpaa
open Go.RowKit
set_option linter.unusedVariables false

theorem Off.given {own : List Nat} {w W : World} (hb : w.heap.size ≤ W.heap.size) (ho : ∀ g ∈ own, w.heap.size ≤ g) : ∀ b, Lt w.heap.size b → Off own W b := fun b h =>
  ⟨Nat.lt_of_lt_of_le h hb, fun hm => by have := ho b hm; have h' : b < w.heap.size := h; omega⟩
theorem FilesIn.given {own : List Nat} {w W : World} {A : Option Addr} {fs : List FileD} (h : FilesIn w (Lt w.heap.size) A fs) (hb : Below w.heap.size w W) (ho : ∀ g ∈ own, w.heap.size ≤ g) : FilesIn W (Off own W) A fs := (h.below (fun _ h => h) hb).more (Off.given hb.size ho)
theorem IntsIn.given {k : IntKind} {own : List Nat} {w W : World} {A : Option Addr} {xs : List Int} (h : IntsIn k w (Lt w.heap.size) A xs) (hb : Below w.heap.size w W) (ho : ∀ g ∈ own, w.heap.size ≤ g) : IntsIn k W (Off own W) A xs := IntsIn.keep h (below_alikeS hb (fun _ h => h)) (Off.given hb.size ho)

end Go.Proofs.Ytjmjpnmlpdbbpaa
