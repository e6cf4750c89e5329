/-
  How the script of layer 3's laws reads.
-/
import Derived.Test.YtjmjpnmlpdbbpaaApi03
import Derived.Test.YtjmjpnmlpdbbpaaOut
namespace Go.Proofs.Ytjmjpnmlpdbbpaa
open Go.RowKit
set_option linter.unusedVariables false

structure DoD where
  kind : Nat
  file : Nat
  to : Nat
  n : Nat
  data : List Nat

def rdDo : Rd DoD := fun w S cs d => ∃ A n c, cs = [.int .u8 (d.kind : Int), .int .u8 (d.file : Int), .int .u8 (d.to : Int), .int .u8 (d.n : Int), .slice A n c] ∧ d.kind < 256 ∧ d.file < 256 ∧ d.to < 256 ∧ d.n < 256 ∧ BysIn w S A d.data ∧ d.data.length = n ∧ n ≤ c ∧ c ≤ maxLen
theorem keeps_do : Keeps rdDo := fun _ _ _ _ _ _ ⟨A, n, c, e, h1, h2, h3, h4, h5, r⟩ hc hS => ⟨A, n, c, e, h1, h2, h3, h4, IntsIn.keep h5 hc hS, r⟩
theorem leaf_do : Leaf rdDo := fun _ _ _ _ ⟨_, _, _, h, _⟩ c hc => by
  rw [h] at hc
  simp at hc
  rcases hc with rfl | rfl | rfl | rfl | rfl <;> rfl
theorem of_do : OfTrod Try.prog 58 rdDo := fun H enc w fuel cs x h => by
  have hl := struct_len Try.underlying58 h
  rw [show Try.prog.cellsOf 58 = 5 by kernel_rfl] at hl
  obtain ⟨z0, e0, h0⟩ := of_field Try.underlying58 h 0 _ rfl 1 (by kernel_rfl) (of_int Try.underlying5)
  obtain ⟨z1, e1, h1⟩ := of_field Try.underlying58 h 1 _ rfl 1 (by kernel_rfl) (of_int Try.underlying5)
  obtain ⟨z2, e2, h2⟩ := of_field Try.underlying58 h 2 _ rfl 1 (by kernel_rfl) (of_int Try.underlying5)
  obtain ⟨z3, e3, h3⟩ := of_field Try.underlying58 h 3 _ rfl 1 (by kernel_rfl) (of_int Try.underlying5)
  obtain ⟨bs, A, n, c, e4, h4⟩ := of_field Try.underlying58 h 4 _ rfl 1 (by kernel_rfl) (of_bytes Try.underlying25 Try.underlying5 (by kernel_rfl))
  match cs, hl with
  | [c0, c1, c2, c3, c4], _ =>
    obtain ⟨y0, rfl, g0⟩ := nat_of_u8 h0
    obtain ⟨y1, rfl, g1⟩ := nat_of_u8 h1
    obtain ⟨y2, rfl, g2⟩ := nat_of_u8 h2
    obtain ⟨y3, rfl, g3⟩ := nat_of_u8 h3
    simp at e0 e1 e2 e3 e4
    subst e0 e1 e2 e3 e4
    exact ⟨⟨y0, y1, y2, y3, bs⟩, A, n, c, rfl, g0, g1, g2, g3, h4.1, h4.2.1, h4.2.2.1, h4.2.2.2⟩
abbrev DosIn (w : World) (S : Nat → Prop) (A : Option Addr) (ds : List DoD) : Prop := Elems rdDo 5 w S A ds
theorem DosIn.below {S : Nat → Prop} {B : Nat} {w w' : World} {A : Option Addr} {ds : List DoD} (h : DosIn w S A ds) (hS : ∀ b, S b → b < B) (hb : Below B w w') : DosIn w' S A ds := Elems.keep keeps_do h (below_alikeS hb hS) (fun _ h => h)
theorem DosIn.at_ {w : World} {S : Nat → Prop} {A : Option Addr} {ds : List DoD} (h : DosIn w S A ds) {j : Nat} (hj : j < ds.length) :
    ∃ b off d A' n c, A = some ⟨b, off, none⟩ ∧ S b ∧ Hid (ds[j]? = some d) ∧ w.cell? ⟨b, off + j * 5, none⟩ = some (.int .u8 (d.kind : Int)) ∧ w.cell? ⟨b, off + j * 5 + 1, none⟩ = some (.int .u8 (d.file : Int)) ∧ w.cell? ⟨b, off + j * 5 + 2, none⟩ = some (.int .u8 (d.to : Int)) ∧ w.cell? ⟨b, off + j * 5 + 3, none⟩ = some (.int .u8 (d.n : Int)) ∧ w.cell? ⟨b, off + j * 5 + 4, none⟩ = some (.slice A' n c) ∧
      d.kind < 256 ∧ d.file < 256 ∧ d.to < 256 ∧ d.n < 256 ∧ BysIn w S A' d.data ∧ Hid (d.data.length = n) ∧ n ≤ c ∧ c ≤ maxLen := by
  obtain ⟨b, off, e, hb, hc⟩ := h (by omega)
  obtain ⟨cs, hl, hcs, A', n, c, rfl, h1, h2, h3, h4, h5, h6, h7⟩ := hc j ds[j] (List.getElem?_eq_getElem hj)
  exact ⟨b, off, ds[j], A', n, c, e, hb, Lib.hid (List.getElem?_eq_getElem hj), hcs 0 _ rfl, hcs 1 _ rfl, hcs 2 _ rfl, hcs 3 _ rfl, hcs 4 _ rfl, h1, h2, h3, h4, h5, Lib.hid h6, h7⟩

end Go.Proofs.Ytjmjpnmlpdbbpaa
