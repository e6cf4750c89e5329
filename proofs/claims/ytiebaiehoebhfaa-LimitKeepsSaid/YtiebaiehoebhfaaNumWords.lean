/-
  Words of the numbers' contracts, over no function.
-/
import Derived.Test.YtiebaiehoebhfaaRows
import Derived.Test.YtiebaiehoebhfaaBase
import Derived.WalkKit
import Derived.WalkSpells
import Derived.WalkLawsBesides
namespace Go.Proofs.Ytiebaiehoebhfaa.num
open Go.RowKit
set_option linter.unusedVariables false

theorem wrap_round (x : Int) : ∃ k : Int, wrap64 x = x + 18446744073709551616 * k := by
  refine ⟨(wrap64 x - x) / 18446744073709551616, ?_⟩
  unfold wrap64; omega
theorem wrap_in (x : Int) : inI (wrap64 x) := by unfold wrap64 inI; omega

/-- a product that wraps is given away by one of the two quotients. -/
theorem mul_wraps (a b : Int) (ha : inI a) (hb : inI b) (hz : a ≠ 0) (hy : b ≠ 0) (h : ¬ inI (a * b))
    (h1 : wrap64 ((wrap64 (a * b)).tdiv a) = b) : ¬ wrap64 ((wrap64 (a * b)).tdiv b) = a := by
  have hp := wrap_in (a * b)
  obtain ⟨k, hk⟩ := wrap_round (a * b)
  have hne : wrap64 (a * b) ≠ a * b := fun e => h (e ▸ hp)
  generalize wrap64 (a * b) = p at *
  have hq : ∀ c, inI c → c ≠ 0 → inI (p.tdiv c) ∨ (c = -1 ∧ p = -9223372036854775808) := by
    intro c hc hc0
    have h2 : (p.tdiv c).natAbs = p.natAbs / c.natAbs := Int.natAbs_tdiv p c
    have h3 := Nat.div_le_self p.natAbs c.natAbs
    by_cases hm : p = -9223372036854775808
    · by_cases hc1 : c = -1
      · exact Or.inr ⟨hc1, hm⟩
      · left
        by_cases hc2 : c = 1
        · subst hc2; simpa using hp
        · have h4 : p.natAbs / c.natAbs ≤ p.natAbs / 2 := Nat.div_le_div_left (by omega) (by omega)
          unfold inI at *; omega
    · left; unfold inI at *; omega
  have key : ∀ c d : Int, c ≠ 0 → inI c → p.tdiv c = d → c * d = a * b → False := by
    intro c d hc hci hd he
    have h2 := Int.mul_tdiv_add_tmod p c
    rw [hd, he] at h2
    have h3 : (p.tmod c).natAbs = p.natAbs % c.natAbs := Int.natAbs_tmod p c
    have h4 := Nat.mod_lt p.natAbs (show 0 < c.natAbs by omega)
    have hk0 : k ≠ 0 := by intro hk0; apply hne; rw [hk, hk0]; omega
    unfold inI at hci
    omega
  have wr : ∀ x, inI x → wrap64 x = x := by intro x hx; unfold inI at hx; unfold wrap64; omega
  intro h2
  rcases hq a ha hz with q1 | ⟨ea, ep⟩
  · rw [wr _ q1] at h1
    exact key a b hz ha h1 rfl
  · rcases hq b hb hy with q2 | ⟨eb, _⟩
    · rw [wr _ q2] at h2
      exact key b a hy hb h2 (Int.mul_comm _ _)
    · subst ea eb; exact h (by unfold inI; omega)

end Go.Proofs.Ytiebaiehoebhfaa.num
