/-
  Contract of layer 1's fixed answer.
-/
import Derived.Test.YtcbnmdkjlffogaaTot
namespace Go.Proofs.Ytcbnmdkjlffogaa.num
open Go.RowKit
set_option linter.unusedVariables false

theorem tot_345 : tot 0 [3, -4, 5] = some 4 := by simp [tot, inI]

theorem total_345 (w : World) (t : TypeId) :
    Calls Try.prog 15 #[.slice (some ⟨w.heap.size, 0, none⟩) 3 3] (w.alloc (.cells #[.int .i64 3, .int .i64 (-4), .int .i64 5] t)) fun e w' =>
      e = .returned (.tuple #[.int .i64 4, .int .i64 0]) ∧ w.alloc (.cells #[.int .i64 3, .int .i64 (-4), .int .i64 5] t) = w' := by
  refine (total_any _ 3 3 (w.heap.size + 1) [3, -4, 5] _ (Ints.new _ rfl (by decide)) rfl (by omega)).mono ?_
  rw [tot_345]
  exact fun e w' h => h

theorem awake_any (w : World) :
    Calls Try.prog 7 #[] w fun e w' => e = .returned (.bool true) ∧ Below w.heap.size w w' := by
  go_enter Try.func7, Try.ntmps7
  go_wp2_with (first
    | ((with_reducible refine (add_ok 4611686018427387904 4611686018427387903 _ (by unfold inI; omega) (by unfold inI; omega) (by unfold inI; omega)).mono ?_); rintro e w' ⟨rfl, rfl⟩)
    | ((with_reducible refine (add_over 4611686018427387904 4611686018427387904 _ (by unfold inI; omega) (by unfold inI; omega) (by unfold inI; omega)).mono ?_); rintro e w' ⟨rfl, rfl⟩)
    | ((with_reducible refine (sub_ok _ _ _ (by unfold inI; omega) (by unfold inI; omega) (by unfold inI; omega)).mono ?_); rintro e w' ⟨rfl, rfl⟩)
    | ((with_reducible refine (mul_ok (-4294967296) _ _ (by unfold inI; omega) (by unfold inI; omega) (by unfold inI; omega)).mono ?_); rintro e w' ⟨rfl, rfl⟩)
    | ((with_reducible refine (mul_over 4294967296 _ _ (by unfold inI; omega) (by unfold inI; omega) (by unfold inI; omega)).mono ?_); rintro e w' ⟨rfl, rfl⟩)
    | ((with_reducible refine (total_345 _ _).mono ?_); rintro e w' ⟨rfl, rfl⟩)
    | ((with_reducible refine (max_any _ _ _ (by unfold inI; omega) (by unfold inI; omega)).mono ?_); rintro e w' ⟨rfl, rfl⟩))
  go_ret
  exact ⟨rfl, (Below.refl _ _).alloc (Nat.le_refl _) _⟩

end Go.Proofs.Ytcbnmdkjlffogaa.num
