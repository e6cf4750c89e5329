/-
  Plain mathematics of layer 8: who covers whom.
-/
import Derived.Test.YtiebaiehoebhfaaCellMath
namespace Go.Proofs.Ytiebaiehoebhfaa.cell

theorem covers_self (a : Ex) : covers a a = true := covers_iff.2 ⟨Int.le_refl _, Int.le_refl _, Int.le_refl _⟩
theorem covers_trans {a b c : Ex} (h : covers a b = true) (g : covers b c = true) : covers a c = true := by
  rw [covers_iff] at *; omega
theorem covers_anti {a b : Ex} (h : covers a b = true) (g : covers b a = true) : a = b := by
  rw [covers_iff] at *
  obtain ⟨l, s, n⟩ := a
  obtain ⟨l', s', n'⟩ := b
  simp only [Ex.mk.injEq] at *
  omega

end Go.Proofs.Ytiebaiehoebhfaa.cell
