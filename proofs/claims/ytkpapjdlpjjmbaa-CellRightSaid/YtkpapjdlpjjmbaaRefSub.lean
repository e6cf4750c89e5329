/-
  The contract of the document's own answer for layer 1: Sub.
-/
import Derived.Test.YtkpapjdlpjjmbaaRows
import Derived.Test.YtkpapjdlpjjmbaaNumWords
import Derived.WalkKit
import Derived.WalkSpells
import Derived.WalkLawsBesides
import Derived.Laws.Bits64
namespace Go.Proofs.Ytkpapjdlpjjmbaa.num
open Go.RowKit
set_option linter.unusedVariables false

theorem rsub_ok (a b : Int) (w : World) (ha : inI a) (hb : inI b) (h : inI (a - b)) :
    Calls Try.prog 23 #[.int .i64 a, .int .i64 b] w fun e w' => e = .returned (.tuple #[.int .i64 (a - b), .bool true]) ∧ w = w' := by
  unfold inI at ha hb h
  rcases (show (0 < b ∧ ¬ a < -9223372036854775808 + b) ∨ (b < 0 ∧ ¬ 9223372036854775807 + b < a) ∨ (¬ 0 < b ∧ ¬ b < 0) by omega) with ⟨h1, h2⟩ | ⟨h1, h2⟩ | ⟨h1, h2⟩
  all_goals
    go_enter Try.func23, Try.ntmps23
    go_wp2
    go_ret2
    exact ⟨rfl, rfl⟩

theorem rsub_over (a b : Int) (w : World) (ha : inI a) (hb : inI b) (h : ¬ inI (a - b)) :
    Calls Try.prog 23 #[.int .i64 a, .int .i64 b] w fun e w' => e = .returned (.tuple #[.int .i64 0, .bool false]) ∧ w = w' := by
  unfold inI at ha hb h
  rcases (show (0 < b ∧ a < -9223372036854775808 + b) ∨ (b < 0 ∧ 9223372036854775807 + b < a) by omega) with ⟨h1, h2⟩ | ⟨h1, h2⟩
  all_goals
    go_enter Try.func23, Try.ntmps23
    go_wp2
    go_ret2
    exact ⟨rfl, rfl⟩
theorem rsub_is (a b s : Int) (w : World) (ha : inI a) (hb : inI b) (hs : inI s) (h : a - b = s) :
    Calls Try.prog 23 #[.int .i64 a, .int .i64 b] w fun e w' => e = .returned (.tuple #[.int .i64 s, .bool true]) ∧ w = w' := by
  subst h; exact rsub_ok a b w ha hb hs

end Go.Proofs.Ytkpapjdlpjjmbaa.num
