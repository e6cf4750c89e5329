/-
  The contract of the document's own answer for layer 1: Add.
-/
import Derived.Test.YtiebaiehoebhfaaRows
import Derived.Test.YtiebaiehoebhfaaNumWords
import Derived.WalkKit
import Derived.WalkSpells
import Derived.WalkLawsBesides
import Derived.Laws.Bits64
namespace Go.Proofs.Ytiebaiehoebhfaa.num
open Go.RowKit
set_option linter.unusedVariables false

theorem radd_ok (a b : Int) (w : World) (ha : inI a) (hb : inI b) (h : inI (a + b)) :
    Calls Try.prog 19 #[.int .i64 a, .int .i64 b] w fun e w' => e = .returned (.tuple #[.int .i64 (a + b), .bool true]) ∧ w = w' := by
  unfold inI at ha hb h
  rcases (show (0 < b ∧ ¬ 9223372036854775807 - b < a) ∨ (b < 0 ∧ ¬ a < -9223372036854775808 - b) ∨ (¬ 0 < b ∧ ¬ b < 0) by omega) with ⟨h1, h2⟩ | ⟨h1, h2⟩ | ⟨h1, h2⟩
  all_goals
    go_enter Try.func19, Try.ntmps19
    go_wp2
    go_ret2
    exact ⟨rfl, rfl⟩

theorem radd_over (a b : Int) (w : World) (ha : inI a) (hb : inI b) (h : ¬ inI (a + b)) :
    Calls Try.prog 19 #[.int .i64 a, .int .i64 b] w fun e w' => e = .returned (.tuple #[.int .i64 0, .bool false]) ∧ w = w' := by
  unfold inI at ha hb h
  rcases (show (0 < b ∧ 9223372036854775807 - b < a) ∨ (b < 0 ∧ a < -9223372036854775808 - b) by omega) with ⟨h1, h2⟩ | ⟨h1, h2⟩
  all_goals
    go_enter Try.func19, Try.ntmps19
    go_wp2
    go_ret2
    exact ⟨rfl, rfl⟩
theorem radd_is (a b s : Int) (w : World) (ha : inI a) (hb : inI b) (hs : inI s) (h : a + b = s) :
    Calls Try.prog 19 #[.int .i64 a, .int .i64 b] w fun e w' => e = .returned (.tuple #[.int .i64 s, .bool true]) ∧ w = w' := by
  subst h; exact radd_ok a b w ha hb hs

end Go.Proofs.Ytiebaiehoebhfaa.num
