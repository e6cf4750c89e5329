/-
  The contract of package rec's OfNote.
-/
import Derived.Test.YtkpapjdlpjjmbaaRecImpl1
import Derived.Deep.DeepCutAuto
namespace Go.Proofs.Ytkpapjdlpjjmbaa.rec
open Go.RowKit Go.Proofs.Ytkpapjdlpjjmbaa
set_option linter.unusedVariables false
set_option linter.unusedSimpArgs false

theorem ofNote_any (z t o q p : Int) (w : World) : Calls Try.prog 32 #[.agg #[.int .i64 z, .int .i64 t, .int .i64 o, .int .i64 q, .int .i64 p]] w fun e' w' => e' = .returned (.agg #[.int .i64 6, .int .i64 o, .int .i64 0, .int .i64 0, .int .i64 0, .int .i64 q, .int .i64 p, .int .i64 0, .int .i64 0, .int .i64 0, .bool false, .int .i64 z, .int .i64 t]) ∧ Below w.heap.size w w' := by
  go_enter Try.func32, Try.ntmps32
  go_wp2
  exact bodyPost_ret (v := .agg #[.int .i64 6, .int .i64 o, .int .i64 0, .int .i64 0, .int .i64 0, .int .i64 q, .int .i64 p, .int .i64 0, .int .i64 0, .int .i64 0, .bool false, .int .i64 z, .int .i64 t]) (by simp [results, Try.results32, go_sem]) rfl ⟨rfl, ((Below.refl _ _).alloc (Nat.le_refl _) _).alloc (by simp) _⟩

end Go.Proofs.Ytkpapjdlpjjmbaa.rec
