/-
  Contracts of package rec: what may be, a record's numbers.
-/
import Derived.Test.YtkpapjdlpjjmbaaRows
import Derived.Test.YtkpapjdlpjjmbaaRecMath
import Derived.Test.YtkpapjdlpjjmbaaKeys
import Derived.Test.YtkpapjdlpjjmbaaRet
import Derived.Test.YtkpapjdlpjjmbaaWhole
namespace Go.Proofs.Ytkpapjdlpjjmbaa.rec
open Go.RowKit Go.Proofs.Ytkpapjdlpjjmbaa
set_option linter.unusedVariables false
set_option linter.unusedSimpArgs false

/-- a record, and six numbers, as the program holds them. -/
def rc (r : Rc) : Array Value := #[.int .i64 r.k, .int .i64 r.o, .int .i64 r.a, .int .i64 r.y, .int .i64 r.d, .int .i64 r.q, .int .i64 r.p, .int .i64 r.l, .int .i64 r.s, .int .i64 r.n, .bool r.on, .int .i64 r.z, .int .i64 r.t]
def nc (b : Ns) : Array Value := #[.int .i64 b.b0, .int .i64 b.b1, .int .i64 b.b2, .int .i64 b.b3, .int .i64 b.b4, .int .i64 b.b5]

theorem ord_any (k o a y d q p l s n : Int) (on : Bool) (z t : Int) (w : World) : Calls Try.prog 52 #[.agg #[.int .i64 k, .int .i64 o, .int .i64 a, .int .i64 y, .int .i64 d, .int .i64 q, .int .i64 p, .int .i64 l, .int .i64 s, .int .i64 n, .bool on, .int .i64 z, .int .i64 t]] w fun e w' => e = .returned (.bool (mayOrder o)) ∧ Below w.heap.size w w' := by
  have hc : ∃ r, Hid (mayOrder o = r) ∧ ((o < 1 ∧ r = false) ∨ (1 ≤ o ∧ 1000000000000 < o ∧ r = false) ∨ (1 ≤ o ∧ o ≤ 1000000000000 ∧ r = true)) := by
    refine ⟨_, Lib.hid rfl, ?_⟩
    simp only [mayOrder, decide_eq_false_iff_not, decide_eq_true_eq]
    omega
  obtain ⟨r, HR, hc⟩ := hc
  rw [HR.out]
  rcases hc with ⟨h0, rfl⟩ | ⟨h0, h1, rfl⟩ | ⟨h0, h1, rfl⟩
  all_goals
    clear HR
    go_enter Try.func52, Try.ntmps52
    go_wp2
    go_ret
    exact ⟨retB (by first | rfl | (simp; omega)), (Below.refl _ _).alloc (Nat.le_refl _) _⟩

theorem acc_any (k o a y d q p l s n : Int) (on : Bool) (z t : Int) (w : World) : Calls Try.prog 53 #[.agg #[.int .i64 k, .int .i64 o, .int .i64 a, .int .i64 y, .int .i64 d, .int .i64 q, .int .i64 p, .int .i64 l, .int .i64 s, .int .i64 n, .bool on, .int .i64 z, .int .i64 t]] w fun e w' => e = .returned (.bool (mayAcc a)) ∧ Below w.heap.size w w' := by
  have hc : ∃ r, Hid (mayAcc a = r) ∧ ((a < 0 ∧ r = false) ∨ (0 ≤ a ∧ 8 ≤ a ∧ r = false) ∨ (0 ≤ a ∧ a < 8 ∧ r = true)) := by
    refine ⟨_, Lib.hid rfl, ?_⟩
    simp only [mayAcc, decide_eq_false_iff_not, decide_eq_true_eq]
    omega
  obtain ⟨r, HR, hc⟩ := hc
  rw [HR.out]
  rcases hc with ⟨h0, rfl⟩ | ⟨h0, h1, rfl⟩ | ⟨h0, h1, rfl⟩
  all_goals
    clear HR
    go_enter Try.func53, Try.ntmps53
    go_wp2
    go_ret
    exact ⟨retB (by first | rfl | (simp; omega)), (Below.refl _ _).alloc (Nat.le_refl _) _⟩

theorem sym_any (k o a y d q p l s n : Int) (on : Bool) (z t : Int) (w : World) : Calls Try.prog 54 #[.agg #[.int .i64 k, .int .i64 o, .int .i64 a, .int .i64 y, .int .i64 d, .int .i64 q, .int .i64 p, .int .i64 l, .int .i64 s, .int .i64 n, .bool on, .int .i64 z, .int .i64 t]] w fun e w' => e = .returned (.bool (mayAcc y)) ∧ Below w.heap.size w w' := by
  have hc : ∃ r, Hid (mayAcc y = r) ∧ ((y < 0 ∧ r = false) ∨ (0 ≤ y ∧ 8 ≤ y ∧ r = false) ∨ (0 ≤ y ∧ y < 8 ∧ r = true)) := by
    refine ⟨_, Lib.hid rfl, ?_⟩
    simp only [mayAcc, decide_eq_false_iff_not, decide_eq_true_eq]
    omega
  obtain ⟨r, HR, hc⟩ := hc
  rw [HR.out]
  rcases hc with ⟨h0, rfl⟩ | ⟨h0, h1, rfl⟩ | ⟨h0, h1, rfl⟩
  all_goals
    clear HR
    go_enter Try.func54, Try.ntmps54
    go_wp2
    go_ret
    exact ⟨retB (by first | rfl | (simp; omega)), (Below.refl _ _).alloc (Nat.le_refl _) _⟩

theorem ask_any (k o a y d q p l s n : Int) (on : Bool) (z t : Int) (w : World) : Calls Try.prog 55 #[.agg #[.int .i64 k, .int .i64 o, .int .i64 a, .int .i64 y, .int .i64 d, .int .i64 q, .int .i64 p, .int .i64 l, .int .i64 s, .int .i64 n, .bool on, .int .i64 z, .int .i64 t]] w fun e w' => e = .returned (.bool (mayAsk q p)) ∧ Below w.heap.size w w' := by
  have hc : ∃ r, Hid (mayAsk q p = r) ∧ ((q < 1 ∧ r = false) ∨ (1 ≤ q ∧ p < 1 ∧ r = false) ∨ (1 ≤ q ∧ 1 ≤ p ∧ r = true)) := by
    refine ⟨_, Lib.hid rfl, ?_⟩
    simp only [mayAsk, decide_eq_false_iff_not, decide_eq_true_eq]
    omega
  obtain ⟨r, HR, hc⟩ := hc
  rw [HR.out]
  rcases hc with ⟨h0, rfl⟩ | ⟨h0, h1, rfl⟩ | ⟨h0, h1, rfl⟩
  all_goals
    clear HR
    go_enter Try.func55, Try.ntmps55
    go_wp2
    go_ret
    exact ⟨retB (by first | rfl | (simp; omega)), (Below.refl _ _).alloc (Nat.le_refl _) _⟩

end Go.Proofs.Ytkpapjdlpjjmbaa.rec
