/-
  The contracts of the document's own answers for layer 6: Right.
-/
import Derived.Test.YtkpapjdlpjjmbaaRecEq
import Derived.Test.YtkpapjdlpjjmbaaRecImpl2
namespace Go.Proofs.Ytkpapjdlpjjmbaa.rec
open Go.RowKit Go.Proofs.Ytkpapjdlpjjmbaa
set_option linter.unusedVariables false
set_option linter.unusedSimpArgs false
set_option maxRecDepth 20000
set_option maxHeartbeats 1000000

theorem rid_is (x : Int) {b : Bool} (h : mayOrder x = b) (w : World) : Calls Try.prog 58 #[.int .i64 x] w fun e w' => e = .returned (.bool b) ∧ w = w' := by
  have hc : ∃ r, Hid (mayOrder x = r) ∧ ((x ≤ 0 ∧ r = false) ∨ (0 < x ∧ 1000000000000 < x ∧ r = false) ∨ (0 < x ∧ x ≤ 1000000000000 ∧ r = true)) := by
    refine ⟨_, Lib.hid rfl, ?_⟩
    simp only [mayOrder, decide_eq_false_iff_not, decide_eq_true_eq]
    omega
  obtain ⟨r, HR, hc⟩ := hc
  obtain rfl : r = b := HR.out.symm.trans h
  clear h
  rcases hc with ⟨h0, rfl⟩ | ⟨h0, h1, rfl⟩ | ⟨h0, h1, rfl⟩
  all_goals
    clear HR
    go_enter Try.func58, Try.ntmps58
    go_wp2
    go_ret
    exact ⟨retB (by first | rfl | (simp; omega)), rfl⟩

end Go.Proofs.Ytkpapjdlpjjmbaa.rec
