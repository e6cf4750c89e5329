/-
  The contract of the document's own answer for layer 8: more of a number, or less.
-/
import Derived.Test.YtkpapjdlpjjmbaaCellRefR
import Derived.Deep.DeepCutAuto
import Derived.Deep.DrawnRows
import Derived.Deep.RegionHeld
namespace Go.Proofs.Ytkpapjdlpjjmbaa.cell
open Go.RowKit Go.Proofs.Ytkpapjdlpjjmbaa
open Go.Proofs.Ytkpapjdlpjjmbaa.order (eq_cases)
attribute [local go_sem] undef
attribute [local go_sem ↓] Go.wp_at_zero Go.wp_at_succ
set_option linter.unusedVariables false
set_option linter.unusedSimpArgs false
set_option maxRecDepth 20000
set_option maxHeartbeats 8000000

theorem more_add (a b : Int) (w : World) (ha : inI a) (hb : inI b) (h : inI (a + b)) : Calls Try.prog 28 #[.int .i64 a, .int .i64 b, .bool false] w fun e w' => e = .returned (.tuple #[.int .i64 (a + b), .bool true]) ∧ w = w' := by
  have HA := Lib.hid ha
  have HB := Lib.hid hb
  have HH := Lib.hid h
  clear ha hb h
  go_enter Try.func28, Try.ntmps28
  go_wp2_with fail
  refine Calls.mono (num.radd_ok a b _ HA.out HB.out HH.out) ?_
  rintro e9 w9 ⟨rfl, rfl⟩
  go_wp2_with fail
  exact bodyPost_ret (v := (.tuple #[.int .i64 (a + b), .bool true])) (by simp [results, Try.results28, go_sem]) rfl ⟨rfl, rfl⟩
theorem more_add_over (a b : Int) (w : World) (ha : inI a) (hb : inI b) (h : ¬ inI (a + b)) : Calls Try.prog 28 #[.int .i64 a, .int .i64 b, .bool false] w fun e w' => e = .returned (.tuple #[.int .i64 0, .bool false]) ∧ w = w' := by
  have HA := Lib.hid ha
  have HB := Lib.hid hb
  have HH := Lib.hid h
  clear ha hb h
  go_enter Try.func28, Try.ntmps28
  go_wp2_with fail
  refine Calls.mono (num.radd_over a b _ HA.out HB.out HH.out) ?_
  rintro e9 w9 ⟨rfl, rfl⟩
  go_wp2_with fail
  exact bodyPost_ret (v := (.tuple #[.int .i64 0, .bool false])) (by simp [results, Try.results28, go_sem]) rfl ⟨rfl, rfl⟩
theorem more_sub (a b : Int) (w : World) (ha : inI a) (hb : inI b) (h : inI (a - b)) : Calls Try.prog 28 #[.int .i64 a, .int .i64 b, .bool true] w fun e w' => e = .returned (.tuple #[.int .i64 (a - b), .bool true]) ∧ w = w' := by
  have HA := Lib.hid ha
  have HB := Lib.hid hb
  have HH := Lib.hid h
  clear ha hb h
  go_enter Try.func28, Try.ntmps28
  go_wp2_with fail
  refine Calls.mono (num.rsub_ok a b _ HA.out HB.out HH.out) ?_
  rintro e9 w9 ⟨rfl, rfl⟩
  go_wp2_with fail
  exact bodyPost_ret (v := (.tuple #[.int .i64 (a - b), .bool true])) (by simp [results, Try.results28, go_sem]) rfl ⟨rfl, rfl⟩
theorem more_sub_over (a b : Int) (w : World) (ha : inI a) (hb : inI b) (h : ¬ inI (a - b)) : Calls Try.prog 28 #[.int .i64 a, .int .i64 b, .bool true] w fun e w' => e = .returned (.tuple #[.int .i64 0, .bool false]) ∧ w = w' := by
  have HA := Lib.hid ha
  have HB := Lib.hid hb
  have HH := Lib.hid h
  clear ha hb h
  go_enter Try.func28, Try.ntmps28
  go_wp2_with fail
  refine Calls.mono (num.rsub_over a b _ HA.out HB.out HH.out) ?_
  rintro e9 w9 ⟨rfl, rfl⟩
  go_wp2_with fail
  exact bodyPost_ret (v := (.tuple #[.int .i64 0, .bool false])) (by simp [results, Try.results28, go_sem]) rfl ⟨rfl, rfl⟩

end Go.Proofs.Ytkpapjdlpjjmbaa.cell
