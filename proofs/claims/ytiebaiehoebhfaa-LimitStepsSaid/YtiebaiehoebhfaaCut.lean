/-
  s[:k], s[k:] of a slice of elements of whatever size.
-/
import Derived.Test.YtiebaiehoebhfaaOwn
import Derived.Test.YtiebaiehoebhfaaRead
namespace Go.Proofs.Ytiebaiehoebhfaa
open Go.RowKit
set_option linter.unusedVariables false

/-- s[:k] as one equation. -/
theorem run_cut_upto {P : Program} (t e size bytes : Nat) (z : Value) (ht : P.underlying t = some (.slice e)) (hinfo : (P.info? e).map (fun i => (i.zero, i.size, i.bytes)) = some (some z, size, bytes))
    (A : Option Addr) (n c k : Nat) (x : Int) (hx : x = (k : Int)) (hk : k ≤ c) (w : World) : (Instr.slice t (.slice A n c) none (some (.int .i64 x)) none).run P w = .ok (.slice A k c) w := by
  subst hx
  obtain ⟨i, hi, _, hsz, _⟩ := info_parts hinfo
  have he : P.elem t = e := by simp [Program.elem, ht]
  rw [run_slice_h (P := P) (w := w) t A n c (by rw [he]; exact ht) .i64 (k : Int) (by omega) (by omega), he]
  rcases A with _ | ⟨b, off, sp⟩
  · simp [sizeOf, typeInfo, hi, Result.andThen, sliced]
  · simp [sizeOf, typeInfo, hi, Result.andThen, sliced, Addr.add]
theorem Elems.cut {α : Type} {R : Rd α} {size : Nat} {w : World} {S : Nat → Prop} {A : Option Addr} {xs : List α} (h : Elems R size w S A xs) (m cap : Nat) (hc : xs.length ≤ cap) : Elems R size w S (cutAt A cap m size) (xs.drop m) := fun h0 => by
  rw [List.length_drop] at h0
  obtain ⟨b, off, rfl, hb, hj⟩ := h (by omega)
  have hne : ¬ cap = m := by omega
  refine ⟨b, off + m * size, by simp [cutAt, hne, Addr.add], hb, fun j x hx => ?_⟩
  rw [List.getElem?_drop] at hx
  obtain ⟨cs, h1, h2, h3⟩ := hj (m + j) x hx
  refine ⟨cs, h1, fun i c hic => ?_, h3⟩
  have := h2 i c hic
  rw [Nat.add_mul] at this
  rw [← this]
  congr 2
  omega

end Go.Proofs.Ytiebaiehoebhfaa
