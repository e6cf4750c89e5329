/-
  Contract of package num, Mul: what each call returns, for every input; the world stays as it is.
-/
import Derived.Test.YtkpapjdlpjjmbaaRows
import Derived.Test.YtkpapjdlpjjmbaaNumWords
import Derived.WalkKit
import Derived.WalkSpells
import Derived.WalkLawsBesides
namespace Go.Proofs.Ytkpapjdlpjjmbaa.num
open Go.RowKit
set_option linter.unusedVariables false


theorem mul_ok (a b : Int) (w : World) (ha : inI a) (hb : inI b) (h : inI (a * b)) :
    Calls Try.prog 49 #[.int .i64 a, .int .i64 b] w fun e w' => e = .returned (.tuple #[.int .i64 (a * b), .int .i64 0]) ∧ w = w' := by
  unfold inI at ha hb h
  by_cases hz : a = 0
  · subst hz
    go_enter Try.func49, Try.ntmps49
    go_wp2
    go_ret2
    exact ⟨by simp, rfl⟩
  by_cases hy : b = 0
  · subst hy
    go_enter Try.func49, Try.ntmps49
    go_wp2
    go_ret2
    exact ⟨by simp, rfl⟩
  have hz' : (a == 0) = false := by simpa using hz
  have hy' : (b == 0) = false := by simpa using hy
  have h1 : wrap64 ((a * b).tdiv a) = b := by rw [Int.mul_tdiv_cancel_left _ hz]; unfold wrap64; omega
  have h2 : wrap64 ((a * b).tdiv b) = a := by rw [Int.mul_tdiv_cancel _ hy]; unfold wrap64; omega
  go_enter Try.func49, Try.ntmps49
  go_wp2
  go_ret2
  exact ⟨rfl, rfl⟩

/-- what wraps is off by whole rounds. -/
theorem mul_over (a b : Int) (w : World) (ha : inI a) (hb : inI b) (h : ¬ inI (a * b)) :
    Calls Try.prog 49 #[.int .i64 a, .int .i64 b] w fun e w' => e = .returned (.tuple #[.int .i64 0, .int .i64 3]) ∧ w = w' := by
  have hz : a ≠ 0 := by rintro rfl; exact h (by unfold inI; omega)
  have hy : b ≠ 0 := by rintro rfl; exact h (by unfold inI; omega)
  have H := mul_wraps a b ha hb hz hy h
  have hz' : (a == 0) = false := by simpa using hz
  have hy' : (b == 0) = false := by simpa using hy
  by_cases h1 : wrap64 ((wrap64 (a * b)).tdiv a) = b
  · have h2 := H h1
    have h1' : (wrap64 ((wrap64 (a * b)).tdiv a) != b) = false := by simpa using h1
    have h2' : (wrap64 ((wrap64 (a * b)).tdiv b) != a) = true := by simpa using h2
    clear H h1 h2 h
    go_enter Try.func49, Try.ntmps49
    go_wp2
    go_ret2
    exact ⟨rfl, rfl⟩
  · have h1' : (wrap64 ((wrap64 (a * b)).tdiv a) != b) = true := by simpa using h1
    clear H h1 h
    go_enter Try.func49, Try.ntmps49
    go_wp2
    go_ret2
    exact ⟨rfl, rfl⟩

theorem mul_is (a b s : Int) (w : World) (ha : inI a) (hb : inI b) (hs : inI s) (h : a * b = s) :
    Calls Try.prog 49 #[.int .i64 a, .int .i64 b] w fun e w' => e = .returned (.tuple #[.int .i64 s, .int .i64 0]) ∧ w = w' := by
  subst h; exact mul_ok a b w ha hb hs

end Go.Proofs.Ytkpapjdlpjjmbaa.num
