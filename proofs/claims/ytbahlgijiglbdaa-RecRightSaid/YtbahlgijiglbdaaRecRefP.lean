/-
  The contracts of the document's own answers for layer 6: Pack, OfNote.
-/
import Derived.Test.YtbahlgijiglbdaaRecImpl2
namespace Go.Proofs.Ytbahlgijiglbdaa.rec
open Go.RowKit Go.Proofs.Ytbahlgijiglbdaa
set_option linter.unusedVariables false
set_option linter.unusedSimpArgs false
set_option maxRecDepth 20000
set_option maxHeartbeats 1000000

theorem rpack_0 (o a y d q p l s n z t : Int) (on : Bool) (w : World) : Calls Try.prog 13 #[.agg #[.int .i64 1, .int .i64 o, .int .i64 a, .int .i64 y, .int .i64 d, .int .i64 q, .int .i64 p, .int .i64 l, .int .i64 s, .int .i64 n, .bool on, .int .i64 z, .int .i64 t]] w fun e w' => e = .returned (.agg #[.int .i64 o, .int .i64 a, .int .i64 y, .int .i64 d, .int .i64 q, .int .i64 p]) ∧ Below w.heap.size w w' := by
  go_enter Try.func13, Try.ntmps13
  go_wp2
  exact bodyPost_ret (v := .agg #[.int .i64 o, .int .i64 a, .int .i64 y, .int .i64 d, .int .i64 q, .int .i64 p]) (by simp [results, Try.results13, go_sem]) rfl ⟨rfl, ((Below.refl _ _).alloc (Nat.le_refl _) _).alloc (by simp) _⟩

theorem rpack_1 (o a y d q p l s n z t : Int) (on : Bool) (w : World) : Calls Try.prog 13 #[.agg #[.int .i64 2, .int .i64 o, .int .i64 a, .int .i64 y, .int .i64 d, .int .i64 q, .int .i64 p, .int .i64 l, .int .i64 s, .int .i64 n, .bool on, .int .i64 z, .int .i64 t]] w fun e w' => e = .returned (.agg #[.int .i64 o, .int .i64 q, .int .i64 p, .int .i64 0, .int .i64 0, .int .i64 0]) ∧ Below w.heap.size w w' := by
  go_enter Try.func13, Try.ntmps13
  go_wp2
  exact bodyPost_ret (v := .agg #[.int .i64 o, .int .i64 q, .int .i64 p, .int .i64 0, .int .i64 0, .int .i64 0]) (by simp [results, Try.results13, go_sem]) rfl ⟨rfl, ((Below.refl _ _).alloc (Nat.le_refl _) _).alloc (by simp) _⟩

theorem rpack_2 (o a y d q p l s n z t : Int) (on : Bool) (w : World) : Calls Try.prog 13 #[.agg #[.int .i64 3, .int .i64 o, .int .i64 a, .int .i64 y, .int .i64 d, .int .i64 q, .int .i64 p, .int .i64 l, .int .i64 s, .int .i64 n, .bool on, .int .i64 z, .int .i64 t]] w fun e w' => e = .returned (.agg #[.int .i64 o, .int .i64 0, .int .i64 0, .int .i64 0, .int .i64 0, .int .i64 0]) ∧ Below w.heap.size w w' := by
  go_enter Try.func13, Try.ntmps13
  go_wp2
  exact bodyPost_ret (v := .agg #[.int .i64 o, .int .i64 0, .int .i64 0, .int .i64 0, .int .i64 0, .int .i64 0]) (by simp [results, Try.results13, go_sem]) rfl ⟨rfl, ((Below.refl _ _).alloc (Nat.le_refl _) _).alloc (by simp) _⟩

theorem rpack_3 (o a y d q p l s n z t : Int) (on : Bool) (w : World) : Calls Try.prog 13 #[.agg #[.int .i64 4, .int .i64 o, .int .i64 a, .int .i64 y, .int .i64 d, .int .i64 q, .int .i64 p, .int .i64 l, .int .i64 s, .int .i64 n, .bool on, .int .i64 z, .int .i64 t]] w fun e w' => e = .returned (.agg #[.int .i64 a, .int .i64 y, .int .i64 l, .int .i64 s, .int .i64 n, .int .i64 0]) ∧ Below w.heap.size w w' := by
  go_enter Try.func13, Try.ntmps13
  go_wp2
  exact bodyPost_ret (v := .agg #[.int .i64 a, .int .i64 y, .int .i64 l, .int .i64 s, .int .i64 n, .int .i64 0]) (by simp [results, Try.results13, go_sem]) rfl ⟨rfl, ((Below.refl _ _).alloc (Nat.le_refl _) _).alloc (by simp) _⟩

theorem rpack_4 (o a y d q p l s n z t : Int) (w : World) : Calls Try.prog 13 #[.agg #[.int .i64 5, .int .i64 o, .int .i64 a, .int .i64 y, .int .i64 d, .int .i64 q, .int .i64 p, .int .i64 l, .int .i64 s, .int .i64 n, .bool true, .int .i64 z, .int .i64 t]] w fun e w' => e = .returned (.agg #[.int .i64 1, .int .i64 0, .int .i64 0, .int .i64 0, .int .i64 0, .int .i64 0]) ∧ Below w.heap.size w w' := by
  go_enter Try.func13, Try.ntmps13
  go_wp2
  exact bodyPost_ret (v := .agg #[.int .i64 1, .int .i64 0, .int .i64 0, .int .i64 0, .int .i64 0, .int .i64 0]) (by simp [results, Try.results13, go_sem]) rfl ⟨rfl, ((Below.refl _ _).alloc (Nat.le_refl _) _).alloc (by simp) _⟩

theorem rpack_5 (o a y d q p l s n z t : Int) (w : World) : Calls Try.prog 13 #[.agg #[.int .i64 5, .int .i64 o, .int .i64 a, .int .i64 y, .int .i64 d, .int .i64 q, .int .i64 p, .int .i64 l, .int .i64 s, .int .i64 n, .bool false, .int .i64 z, .int .i64 t]] w fun e w' => e = .returned (.agg #[.int .i64 0, .int .i64 0, .int .i64 0, .int .i64 0, .int .i64 0, .int .i64 0]) ∧ Below w.heap.size w w' := by
  go_enter Try.func13, Try.ntmps13
  go_wp2
  exact bodyPost_ret (v := .agg #[.int .i64 0, .int .i64 0, .int .i64 0, .int .i64 0, .int .i64 0, .int .i64 0]) (by simp [results, Try.results13, go_sem]) rfl ⟨rfl, ((Below.refl _ _).alloc (Nat.le_refl _) _).alloc (by simp) _⟩

theorem rpack_6 (o a y d q p l s n z t : Int) (on : Bool) (w : World) : Calls Try.prog 13 #[.agg #[.int .i64 6, .int .i64 o, .int .i64 a, .int .i64 y, .int .i64 d, .int .i64 q, .int .i64 p, .int .i64 l, .int .i64 s, .int .i64 n, .bool on, .int .i64 z, .int .i64 t]] w fun e w' => e = .returned (.agg #[.int .i64 z, .int .i64 t, .int .i64 o, .int .i64 q, .int .i64 p, .int .i64 0]) ∧ Below w.heap.size w w' := by
  go_enter Try.func13, Try.ntmps13
  go_wp2
  exact bodyPost_ret (v := .agg #[.int .i64 z, .int .i64 t, .int .i64 o, .int .i64 q, .int .i64 p, .int .i64 0]) (by simp [results, Try.results13, go_sem]) rfl ⟨rfl, ((Below.refl _ _).alloc (Nat.le_refl _) _).alloc (by simp) _⟩

theorem rpack_is (k o a y d q p l s n : Int) (on : Bool) (z t : Int) {b0 b1 b2 b3 b4 b5 : Int} (hk : 1 ≤ k ∧ k ≤ 6) (h : nums ⟨k, o, a, y, d, q, p, l, s, n, on, z, t⟩ = ⟨b0, b1, b2, b3, b4, b5⟩) (w : World) : Calls Try.prog 13 #[.agg #[.int .i64 k, .int .i64 o, .int .i64 a, .int .i64 y, .int .i64 d, .int .i64 q, .int .i64 p, .int .i64 l, .int .i64 s, .int .i64 n, .bool on, .int .i64 z, .int .i64 t]] w fun e w' => e = .returned (.agg #[.int .i64 b0, .int .i64 b1, .int .i64 b2, .int .i64 b3, .int .i64 b4, .int .i64 b5]) ∧ Below w.heap.size w w' := by
  have hc : k = 1 ∨ k = 2 ∨ k = 3 ∨ k = 4 ∨ k = 5 ∨ k = 6 := by omega
  rcases hc with rfl | rfl | rfl | rfl | rfl | rfl
  · simp [nums] at h; obtain ⟨rfl, rfl, rfl, rfl, rfl, rfl⟩ := h; exact rpack_0 o a y d q p l s n z t on w
  · simp [nums] at h; obtain ⟨rfl, rfl, rfl, rfl, rfl, rfl⟩ := h; exact rpack_1 o a y d q p l s n z t on w
  · simp [nums] at h; obtain ⟨rfl, rfl, rfl, rfl, rfl, rfl⟩ := h; exact rpack_2 o a y d q p l s n z t on w
  · simp [nums] at h; obtain ⟨rfl, rfl, rfl, rfl, rfl, rfl⟩ := h; exact rpack_3 o a y d q p l s n z t on w
  · cases on
    · simp [nums, nz] at h; obtain ⟨rfl, rfl, rfl, rfl, rfl, rfl⟩ := h; exact rpack_5 o a y d q p l s n z t w
    · simp [nums] at h; obtain ⟨rfl, rfl, rfl, rfl, rfl, rfl⟩ := h; exact rpack_4 o a y d q p l s n z t w
  · simp [nums] at h; obtain ⟨rfl, rfl, rfl, rfl, rfl, rfl⟩ := h; exact rpack_6 o a y d q p l s n z t on w

theorem rofNote_any (z t o q p : Int) (w : World) : Calls Try.prog 12 #[.agg #[.int .i64 z, .int .i64 t, .int .i64 o, .int .i64 q, .int .i64 p]] w fun e' w' => e' = .returned (.agg #[.int .i64 6, .int .i64 o, .int .i64 0, .int .i64 0, .int .i64 0, .int .i64 q, .int .i64 p, .int .i64 0, .int .i64 0, .int .i64 0, .bool false, .int .i64 z, .int .i64 t]) ∧ Below w.heap.size w w' := by
  go_enter Try.func12, Try.ntmps12
  go_wp2
  exact bodyPost_ret (v := .agg #[.int .i64 6, .int .i64 o, .int .i64 0, .int .i64 0, .int .i64 0, .int .i64 q, .int .i64 p, .int .i64 0, .int .i64 0, .int .i64 0, .bool false, .int .i64 z, .int .i64 t]) (by simp [results, Try.results12, go_sem]) rfl ⟨rfl, (((Below.refl _ _).alloc (Nat.le_refl _) _).alloc (by simp) _).alloc (by simp; omega) _⟩

end Go.Proofs.Ytbahlgijiglbdaa.rec
