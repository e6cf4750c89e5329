/-
  Contract of package num, Add: what each call returns, for every input; the world stays as it is.
-/
import Derived.Test.YtiebaiehoebhfaaRows
import Derived.Test.YtiebaiehoebhfaaNumWords
import Derived.WalkKit
import Derived.WalkSpells
import Derived.WalkLawsBesides
namespace Go.Proofs.Ytiebaiehoebhfaa.num
open Go.RowKit
set_option linter.unusedVariables false


theorem add_ok (a b : Int) (w : World) (ha : inI a) (hb : inI b) (h : inI (a + b)) :
    Calls Try.prog 20 #[.int .i64 a, .int .i64 b] w fun e w' => e = .returned (.tuple #[.int .i64 (a + b), .int .i64 0]) ∧ w = w' := by
  unfold inI at ha hb h
  by_cases hn : b < 0
  · have h2 : a + b < a := by omega
    go_enter Try.func20, Try.ntmps20
    go_wp2
    go_ret2
    exact ⟨rfl, rfl⟩
  · have h2 : ¬ a + b < a := by omega
    go_enter Try.func20, Try.ntmps20
    go_wp2
    go_ret2
    exact ⟨rfl, rfl⟩

theorem add_over (a b : Int) (w : World) (ha : inI a) (hb : inI b) (h : ¬ inI (a + b)) :
    Calls Try.prog 20 #[.int .i64 a, .int .i64 b] w fun e w' => e = .returned (.tuple #[.int .i64 0, .int .i64 3]) ∧ w = w' := by
  unfold inI at ha hb h
  by_cases hn : b < 0
  · have h2 : ¬ wrap64 (a + b) < a := by unfold wrap64; omega
    go_enter Try.func20, Try.ntmps20
    go_wp2
    go_ret2
    exact ⟨rfl, rfl⟩
  · have h2 : wrap64 (a + b) < a := by unfold wrap64; omega
    go_enter Try.func20, Try.ntmps20
    go_wp2
    go_ret2
    exact ⟨rfl, rfl⟩

theorem add_is (a b s : Int) (w : World) (ha : inI a) (hb : inI b) (hs : inI s) (h : a + b = s) :
    Calls Try.prog 20 #[.int .i64 a, .int .i64 b] w fun e w' => e = .returned (.tuple #[.int .i64 s, .int .i64 0]) ∧ w = w' := by
  subst h; exact add_ok a b w ha hb hs

end Go.Proofs.Ytiebaiehoebhfaa.num
