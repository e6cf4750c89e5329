/-
  Contracts of package disk over the code as it landed: all of them.
-/
import Derived.Test.YtjmjpnmlpdbbpaaDiskImpl17
import Derived.Test.YtjmjpnmlpdbbpaaDiskImpl16
import Derived.Test.YtjmjpnmlpdbbpaaDiskImpl15b
namespace Go.Proofs.Ytjmjpnmlpdbbpaa.disk
open Go.RowKit
set_option linter.unusedVariables false

theorem dappend (A : Option Addr) (n c : Nat) (room fuse : Int) (down : Bool) (nm : ByteArray) (Ab : Option Addr) (nb cb : Nat) (bs : List Nat) (fs : List FileD) (r : DiskD × Int) (S : Nat → Prop) (w : World) (hS : ∀ b, S b → b < w.heap.size) (hf : FilesIn w S A fs) (hn : fs.length = n) (hnc : n ≤ c) (hcm : c ≤ maxLen) (hr : inI room) (hfu : inI fuse) (hsh : shortB fs = true) (hnm : nm.size ≤ 100) (hb : BysIn w S Ab bs) (hbn : bs.length = nb) (hbc : nb ≤ cb) (hbm : cb ≤ maxLen) (hbl : nb ≤ 70000) (hv : appendD ⟨fs, room, fuse, down⟩ nm bs = r) :
    Calls Try.prog 16 #[.agg #[.slice A n c, .int .i64 room, .int .i64 fuse, .bool down], .string nm, .slice Ab nb cb] w (RetOp S w r) := by
  by_cases hq : firstE ⟨fs, room, fuse, down⟩ nm nm = 0
  · by_cases hq2 : appE ⟨fs, room, fuse, down⟩ nm bs = 0
    · obtain ⟨f2, dn2, x2, hsp⟩ : ∃ f2 dn2 x2, spentD fuse down = ((f2, dn2), x2) := ⟨_, _, _, rfl⟩
      cases hl : look nm fs with
      | none => exact dappend_new A n c room fuse down nm Ab nb cb bs fs r S w hS hf hn hnc hcm hr hfu hsh hnm hb hbn hbc hbm hbl hv hq hq2 f2 dn2 x2 hsp hl
      | some f => exact dappend_there A n c room fuse down nm Ab nb cb bs fs r S w hS hf hn hnc hcm hr hfu hsh hnm hb hbn hbc hbm hbl hv hq hq2 f2 dn2 x2 hsp f hl
    · have h6 : appE ⟨fs, room, fuse, down⟩ nm bs = 6 := by
        unfold appE at hq2 ⊢
        split
        · rfl
        · rename_i h; rw [if_neg h] at hq2; exact absurd rfl hq2
      by_cases h7 : room < (used fs : Int) + (bs.length : Int)
      · exact dappend_full1 A n c room fuse down nm Ab nb cb bs fs r S w hS hf hn hnc hcm hr hfu hsh hnm hb hbn hbc hbm hbl hv hq h6 h7
      · refine dappend_full2 A n c room fuse down nm Ab nb cb bs fs r S w hS hf hn hnc hcm hr hfu hsh hnm hb hbn hbc hbm hbl hv hq h6 ?_
        have h64 := ((right_iff _).1 (first_zero.1 hq).1).2.2.1
        unfold appE at h6
        split at h6
        · rename_i h
          rcases h with h | ⟨h, h'⟩
          · simp only at h; omega
          · simp only at h h' h64
            exact ⟨by omega, h, by omega⟩
        · cases h6
  · exact dappend_first A n c room fuse down nm Ab nb cb bs fs r S w hS hf hn hnc hcm hr hfu hsh hnm hb hbn hbc hbm hbl hv hq

end Go.Proofs.Ytjmjpnmlpdbbpaa.disk
