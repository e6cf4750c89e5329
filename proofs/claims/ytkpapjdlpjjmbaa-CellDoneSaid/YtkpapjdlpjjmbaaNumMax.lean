/-
  Contract of package num, Max: what each call returns, for every input; the world stays as it is.
-/
import Derived.Test.YtkpapjdlpjjmbaaRows
import Derived.Test.YtkpapjdlpjjmbaaNumWords
import Derived.WalkKit
import Derived.WalkSpells
import Derived.WalkLawsBesides
namespace Go.Proofs.Ytkpapjdlpjjmbaa.num
open Go.RowKit
set_option linter.unusedVariables false


theorem max_any (a b : Int) (w : World) (ha : inI a) (hb : inI b) :
    Calls Try.prog 30 #[.int .i64 a, .int .i64 b] w fun e w' => e = .returned (.int .i64 (max a b)) ∧ w = w' := by
  unfold inI at ha hb
  by_cases h : a < b
  · rw [show max a b = b by omega]
    go_enter Try.func30, Try.ntmps30
    go_wp2
    go_ret
    exact ⟨by simp, rfl⟩
  · rw [show max a b = a by omega]
    go_enter Try.func30, Try.ntmps30
    go_wp2
    go_ret
    exact ⟨by simp, rfl⟩

end Go.Proofs.Ytkpapjdlpjjmbaa.num
