/-
  Contract of the document's own answer for layer 3: Append (words).
-/
import Derived.Test.YtjmjpnmlpdbbpaaDiskRef7
namespace Go.Proofs.Ytjmjpnmlpdbbpaa.disk
open Go.RowKit
set_option linter.unusedVariables false
set_option linter.unusedSimpArgs false
attribute [local go_sem] undef

theorem OwnInts.cap {w : World} {base n c : Nat} {e : TypeId} {k : IntKind} {A : Option Addr} {xs : List Int} (h : OwnInts w base e k A n c xs) : n ≤ c ∧ c ≤ maxLen := by
  rcases h.1.2 with ⟨hv, h0⟩ | ⟨g, cap, cur, hv, _, _, h2, h3, _⟩
  · simp only [Value.slice.injEq] at hv
    obtain ⟨_, rfl, rfl⟩ := hv
    exact ⟨Nat.le_refl _, by unfold maxLen; omega⟩
  · simp only [Value.slice.injEq, true_and] at hv
    obtain ⟨_, rfl⟩ := hv
    exact ⟨h2, h3⟩
/-- bytes of a row of the call's own lie in blocks of its own. -/
theorem OwnBys.in_ {w : World} {base n c : Nat} {e : TypeId} {A : Option Addr} {bs : List Nat} (h : OwnBys w base e A n c bs) : BysIn w (fun b => base ≤ b ∧ b < w.heap.size) A bs := by
  have hi := OwnInts.ints h
  refine ⟨hi.1, fun hn => ?_⟩
  obtain ⟨b, off, e1, hb, hc⟩ := hi.2 hn
  have hl := OwnInts.len h
  obtain ⟨g, x, e2, h1, h2, _⟩ := OwnInts.at_ h (j := 0) (by omega)
  rw [e1] at e2
  injection e2 with e2
  injection e2 with e3 e4
  subst e3
  exact ⟨b, off, e1, ⟨h1, h2⟩, hc⟩
/-- with, asked for a file whose bytes were just grown, its cell stored. -/
theorem with_grown {S : Nat → Prop} {w w1 w3 w6 : World} {A A6 : Option Addr} {n c n6 c6 : Nat} {room fuse : Int} {down : Bool} {fs : List FileD} {nm : ByteArray} {d : List Nat} {sure : Int}
    (HFI : ∀ W, Below w.heap.size w W → FilesIn W S A fs) (hS : ∀ b, S b → b < w.heap.size) (hgw3 : Below w.heap.size w w3) (h1s : w.heap.size ≤ w1.heap.size) (hn3 : w1.heap.size < w3.heap.size) (HN : fs.length = n) (hc : n ≤ 1000000)
    (hown : OwnBys w6 w3.heap.size 5 A6 n6 c6 d) (hb6 : Below w3.heap.size w3 w6) (hnm : nm.size ≤ maxLen) (hl : d.length = n6) (hsu : inI sure) :
    Calls Try.prog 43 #[.agg #[.slice A n c, .int .i64 room, .int .i64 fuse, .bool down], .agg #[.string nm, .slice A6 n6 c6, .int .i64 sure]] (w6.setCell ⟨w1.heap.size, 1, none⟩ (.slice A6 n6 c6)) (RetDisk (Out S w3 w6) (w6.setCell ⟨w1.heap.size, 1, none⟩ (.slice A6 n6 c6)) ⟨withF ⟨nm, d, sure⟩ fs, room, fuse, down⟩) := by
  have hs6 := hb6.size
  have hs3 := hgw3.size
  have hsz : (w6.setCell ⟨w1.heap.size, 1, none⟩ (.slice A6 n6 c6)).heap.size = w6.heap.size := by simp [World.setCell]
  have hal : Alike (Out S w3 w6) w6 (w6.setCell ⟨w1.heap.size, 1, none⟩ (.slice A6 n6 c6)) := fun b o hb => World.cell?_of_block (Below.heap_setCell _ _ _ _ (by
    show b ≠ w1.heap.size
    rcases hb with hb | hb
    · have := hS b hb; omega
    · omega))
  have hcap := OwnInts.cap hown
  refine rwith A A6 n c n6 c6 room fuse down fs ⟨nm, d, sure⟩ (Out S w3 w6) _ (fun b hb => ?_) ?_ HN hc hnm ?_ hl hcap.1 hcap.2 hsu
  · rw [hsz]
    rcases hb with hb | hb
    · have := hS b hb; omega
    · exact hb.2
  · exact Elems.keep keeps_file (FilesIn.more (HFI w6 (hgw3.trans (hb6.mono hs3))) Out.mk) hal (fun _ h => h)
  · exact IntsIn.keep (IntsIn.keep (OwnBys.in_ hown) (alike_refl _ _) (fun b hb => .inr hb)) hal (fun _ h => h)

/-- what stays behind the asking how much is used: the disk, the room for what comes back, the file. -/
def Kept (w w1 wx : World) (D : Array Value) (f0 f1 f2 : Value) : Prop := Below w.heap.size w wx ∧ w1.heap.size < wx.heap.size ∧ wx.heap[w.heap.size]? = some (.cells D 24 (0, 0)) ∧ wx.heap[w.heap.size + 1]? = some (.cells #[.slice none 0 0, .int .i64 0, .int .i64 0, .bool false] 24 (0, 0)) ∧ wx.heap[w1.heap.size]? = some (.cells #[f0, f1, f2] 51 (0, 0))


end Go.Proofs.Ytjmjpnmlpdbbpaa.disk
