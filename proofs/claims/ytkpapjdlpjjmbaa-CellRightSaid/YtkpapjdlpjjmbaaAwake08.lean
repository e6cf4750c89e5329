/-
  The fixed answer of layer 8.
-/
import Derived.Test.YtkpapjdlpjjmbaaCellImpl
import Derived.Test.YtkpapjdlpjjmbaaWhole
import Derived.Deep.DeepCutAuto
import Derived.Deep.DrawnRows
import Derived.Deep.RegionHeld
namespace Go.Proofs.Ytkpapjdlpjjmbaa.cell
open Go.RowKit Go.Proofs.Ytkpapjdlpjjmbaa
set_option linter.unusedVariables false
set_option linter.unusedSimpArgs false
attribute [local go_sem] undef
attribute [local go_sem ↓] Go.wp_at_zero Go.wp_at_succ
set_option maxRecDepth 20000
set_option maxHeartbeats 8000000

theorem awake_any (W0 : World) : Calls Try.prog 7 #[] W0 fun e w' => e = .returned (.bool true) ∧ Below W0.heap.size W0 w' := by
  have HBw0 : Hid (Below W0.heap.size W0 W0) := Lib.hid (Below.refl _ _)
  go_enter Try.func7, Try.ntmps7
  go_upto_region 2 with fail
  obtain ⟨W1, HW1⟩ : ∃ W, Hid ((W0.alloc (.cells #[.int .i64 1, .int .i64 0, .int .i64 0, .int .i64 1, .int .i64 10, .int .i64 3, .int .i64 0, .int .i64 2, .int .i64 0, .int .i64 0, .int .i64 0, .bool false] 25)) = W) := ⟨_, Lib.hid rfl⟩
  have LE_1 : Hid (W0.heap.size ≤ W0.heap.size) := Lib.hid HBw0.out.size
  have HBw1 : Hid (Below W0.heap.size W0 W1) := Lib.hid (HBw0.out.trans ((by rw [← HW1.out]; exact (Below.refl _ _).alloc (Nat.le_refl _) _ : Below W0.heap.size W0 W1).mono HBw0.out.size))
  have HB0_1 : Hid (Below W0.heap.size W0 W1) := Lib.hid (by rw [← HW1.out]; exact (Below.refl _ _).alloc (Nat.le_refl _) _)
  have HX1_1 : Hid (∀ W, Below W1.heap.size W1 W → W.heap[W0.heap.size]? = some (.cells #[.int .i64 1, .int .i64 0, .int .i64 0, .int .i64 1, .int .i64 10, .int .i64 3, .int .i64 0, .int .i64 2, .int .i64 0, .int .i64 0, .int .i64 0, .bool false] 25 (0, 0))) := Lib.hid (fun W hb => (hb.block _ (by rw [← HW1.out]; simp)).trans (by rw [← HW1.out]; exact heap_alloc_new _ _))
  rw [HW1.out]
  obtain ⟨k1_0, k1_1, k1_2, k1_3, k1_4, k1_5, k1_6, k1_7, k1_8, k1_9, k1_10, k1_11⟩ := order.cells12 (HX1_1.out W1 (Below.refl _ _))
  go_wp2_with fail
  refine Calls.mono (come_is 0 0 0 0 1 0 0 1 10 3 0 2 0 0 0 false (by simp [Ce.fine, frame.inR]) (by simp [order.Or.fine, frame.inR]) (by decide +kernel : come ⟨0, 0, 0, 0⟩ ⟨1, 0, 0, 1, 10, 3, 0, 2, 0, 0, 0, false⟩ = (⟨0, 10, 0, 30⟩, 0)) _) ?_
  rintro e2 W2 ⟨rfl, hb⟩
  have HBw2 : Hid (Below W0.heap.size W0 W2) := Lib.hid (HBw1.out.trans ((hb : Below W1.heap.size W1 W2).mono HBw1.out.size))
  have HB0_2 : Hid (Below W0.heap.size W0 W2) := Lib.hid (HB0_1.out.trans ((hb : Below W1.heap.size W1 W2).mono HB0_1.out.size))
  have HB1_2 : Hid (Below W1.heap.size W1 W2) := Lib.hid (hb)
  clear hb
  clear k1_0 k1_1 k1_2 k1_3 k1_4 k1_5 k1_6 k1_7 k1_8 k1_9 k1_10 k1_11
  go_upto_region 3 with fail
  obtain ⟨W3, HW3⟩ : ∃ W, Hid ((W2.alloc (.cells #[.int .i64 0, .int .i64 10, .int .i64 0, .int .i64 30] 23)) = W) := ⟨_, Lib.hid rfl⟩
  have NE_3_2_1 : Hid (W0.heap.size ≠ W2.heap.size) := Lib.hid (Nat.ne_of_lt (Array.getElem?_eq_some_iff.1 (HX1_1.out W2 HB1_2.out)).1)
  have LE_3 : Hid (W0.heap.size ≤ W2.heap.size) := Lib.hid HBw2.out.size
  have HBw3 : Hid (Below W0.heap.size W0 W3) := Lib.hid (HBw2.out.trans ((by rw [← HW3.out]; exact (Below.refl _ _).alloc (Nat.le_refl _) _ : Below W2.heap.size W2 W3).mono HBw2.out.size))
  have HB0_3 : Hid (Below W0.heap.size W0 W3) := Lib.hid (HB0_2.out.trans ((by rw [← HW3.out]; exact (Below.refl _ _).alloc (Nat.le_refl _) _ : Below W2.heap.size W2 W3).mono HB0_2.out.size))
  have HB1_3 : Hid (Below W1.heap.size W1 W3) := Lib.hid (HB1_2.out.trans ((by rw [← HW3.out]; exact (Below.refl _ _).alloc (Nat.le_refl _) _ : Below W2.heap.size W2 W3).mono HB1_2.out.size))
  have HB2_3 : Hid (Below W2.heap.size W2 W3) := Lib.hid (by rw [← HW3.out]; exact (Below.refl _ _).alloc (Nat.le_refl _) _)
  have HX2_3 : Hid (∀ W, Below W3.heap.size W3 W → W.heap[W2.heap.size]? = some (.cells #[.int .i64 0, .int .i64 10, .int .i64 0, .int .i64 30] 23 (0, 0))) := Lib.hid (fun W hb => (hb.block _ (by rw [← HW3.out]; simp)).trans (by rw [← HW3.out]; exact heap_alloc_new _ _))
  rw [HW3.out]
  obtain ⟨k2_0, k2_1, k2_2, k2_3⟩ := cells4 (HX2_3.out W3 (Below.refl _ _))
  go_wp2_with fail
  refine Calls.mono (of_is 0 10 0 30 (by simp [Ce.fine, frame.inR]) (by decide +kernel : of_ ⟨0, 10, 0, 30⟩ = (⟨10, 0, 30⟩, 0)) _) ?_
  rintro e4 W4 ⟨rfl, hb⟩
  have HBw4 : Hid (Below W0.heap.size W0 W4) := Lib.hid (HBw3.out.trans ((hb : Below W3.heap.size W3 W4).mono HBw3.out.size))
  have HB0_4 : Hid (Below W0.heap.size W0 W4) := Lib.hid (HB0_3.out.trans ((hb : Below W3.heap.size W3 W4).mono HB0_3.out.size))
  have HB1_4 : Hid (Below W1.heap.size W1 W4) := Lib.hid (HB1_3.out.trans ((hb : Below W3.heap.size W3 W4).mono HB1_3.out.size))
  have HB2_4 : Hid (Below W2.heap.size W2 W4) := Lib.hid (HB2_3.out.trans ((hb : Below W3.heap.size W3 W4).mono HB2_3.out.size))
  have HB3_4 : Hid (Below W3.heap.size W3 W4) := Lib.hid (hb)
  clear hb
  clear k2_0 k2_1 k2_2 k2_3
  go_upto_region 4 with fail
  obtain ⟨W5, HW5⟩ : ∃ W, Hid ((W4.alloc (.cells #[.int .i64 10, .int .i64 0, .int .i64 30] 27)) = W) := ⟨_, Lib.hid rfl⟩
  have NE_5_4_1 : Hid (W0.heap.size ≠ W4.heap.size) := Lib.hid (Nat.ne_of_lt (Array.getElem?_eq_some_iff.1 (HX1_1.out W4 HB1_4.out)).1)
  have NE_5_4_2 : Hid (W2.heap.size ≠ W4.heap.size) := Lib.hid (Nat.ne_of_lt (Array.getElem?_eq_some_iff.1 (HX2_3.out W4 HB3_4.out)).1)
  have LE_5 : Hid (W0.heap.size ≤ W4.heap.size) := Lib.hid HBw4.out.size
  have HBw5 : Hid (Below W0.heap.size W0 W5) := Lib.hid (HBw4.out.trans ((by rw [← HW5.out]; exact (Below.refl _ _).alloc (Nat.le_refl _) _ : Below W4.heap.size W4 W5).mono HBw4.out.size))
  have HB0_5 : Hid (Below W0.heap.size W0 W5) := Lib.hid (HB0_4.out.trans ((by rw [← HW5.out]; exact (Below.refl _ _).alloc (Nat.le_refl _) _ : Below W4.heap.size W4 W5).mono HB0_4.out.size))
  have HB1_5 : Hid (Below W1.heap.size W1 W5) := Lib.hid (HB1_4.out.trans ((by rw [← HW5.out]; exact (Below.refl _ _).alloc (Nat.le_refl _) _ : Below W4.heap.size W4 W5).mono HB1_4.out.size))
  have HB2_5 : Hid (Below W2.heap.size W2 W5) := Lib.hid (HB2_4.out.trans ((by rw [← HW5.out]; exact (Below.refl _ _).alloc (Nat.le_refl _) _ : Below W4.heap.size W4 W5).mono HB2_4.out.size))
  have HB3_5 : Hid (Below W3.heap.size W3 W5) := Lib.hid (HB3_4.out.trans ((by rw [← HW5.out]; exact (Below.refl _ _).alloc (Nat.le_refl _) _ : Below W4.heap.size W4 W5).mono HB3_4.out.size))
  have HB4_5 : Hid (Below W4.heap.size W4 W5) := Lib.hid (by rw [← HW5.out]; exact (Below.refl _ _).alloc (Nat.le_refl _) _)
  have HX4_5 : Hid (∀ W, Below W5.heap.size W5 W → W.heap[W4.heap.size]? = some (.cells #[.int .i64 10, .int .i64 0, .int .i64 30] 27 (0, 0))) := Lib.hid (fun W hb => (hb.block _ (by rw [← HW5.out]; simp)).trans (by rw [← HW5.out]; exact heap_alloc_new _ _))
  rw [HW5.out]
  obtain ⟨k2_0, k2_1, k2_2, k2_3⟩ := cells4 (HX2_3.out W5 HB3_5.out)
  go_wp2_with fail
  refine Calls.mono (did_is 0 10 0 30 1 4 (by simp [Ce.fine, frame.inR]) (by simp [frame.inR]) (by simp [frame.inR]) (by decide +kernel : did ⟨0, 10, 0, 30⟩ 1 4 = (⟨4, 10, 0, 30⟩, 0)) _) ?_
  rintro e6 W6 ⟨rfl, hb⟩
  have HBw6 : Hid (Below W0.heap.size W0 W6) := Lib.hid (HBw5.out.trans ((hb : Below W5.heap.size W5 W6).mono HBw5.out.size))
  have HB0_6 : Hid (Below W0.heap.size W0 W6) := Lib.hid (HB0_5.out.trans ((hb : Below W5.heap.size W5 W6).mono HB0_5.out.size))
  have HB1_6 : Hid (Below W1.heap.size W1 W6) := Lib.hid (HB1_5.out.trans ((hb : Below W5.heap.size W5 W6).mono HB1_5.out.size))
  have HB2_6 : Hid (Below W2.heap.size W2 W6) := Lib.hid (HB2_5.out.trans ((hb : Below W5.heap.size W5 W6).mono HB2_5.out.size))
  have HB3_6 : Hid (Below W3.heap.size W3 W6) := Lib.hid (HB3_5.out.trans ((hb : Below W5.heap.size W5 W6).mono HB3_5.out.size))
  have HB4_6 : Hid (Below W4.heap.size W4 W6) := Lib.hid (HB4_5.out.trans ((hb : Below W5.heap.size W5 W6).mono HB4_5.out.size))
  have HB5_6 : Hid (Below W5.heap.size W5 W6) := Lib.hid (hb)
  clear hb
  clear k2_0 k2_1 k2_2 k2_3
  go_upto_region 5 with fail
  obtain ⟨W7, HW7⟩ : ∃ W, Hid ((W6.alloc (.cells #[.int .i64 4, .int .i64 10, .int .i64 0, .int .i64 30] 23)) = W) := ⟨_, Lib.hid rfl⟩
  have NE_7_6_1 : Hid (W0.heap.size ≠ W6.heap.size) := Lib.hid (Nat.ne_of_lt (Array.getElem?_eq_some_iff.1 (HX1_1.out W6 HB1_6.out)).1)
  have NE_7_6_2 : Hid (W2.heap.size ≠ W6.heap.size) := Lib.hid (Nat.ne_of_lt (Array.getElem?_eq_some_iff.1 (HX2_3.out W6 HB3_6.out)).1)
  have NE_7_6_4 : Hid (W4.heap.size ≠ W6.heap.size) := Lib.hid (Nat.ne_of_lt (Array.getElem?_eq_some_iff.1 (HX4_5.out W6 HB5_6.out)).1)
  have LE_7 : Hid (W0.heap.size ≤ W6.heap.size) := Lib.hid HBw6.out.size
  have HBw7 : Hid (Below W0.heap.size W0 W7) := Lib.hid (HBw6.out.trans ((by rw [← HW7.out]; exact (Below.refl _ _).alloc (Nat.le_refl _) _ : Below W6.heap.size W6 W7).mono HBw6.out.size))
  have HB0_7 : Hid (Below W0.heap.size W0 W7) := Lib.hid (HB0_6.out.trans ((by rw [← HW7.out]; exact (Below.refl _ _).alloc (Nat.le_refl _) _ : Below W6.heap.size W6 W7).mono HB0_6.out.size))
  have HB1_7 : Hid (Below W1.heap.size W1 W7) := Lib.hid (HB1_6.out.trans ((by rw [← HW7.out]; exact (Below.refl _ _).alloc (Nat.le_refl _) _ : Below W6.heap.size W6 W7).mono HB1_6.out.size))
  have HB2_7 : Hid (Below W2.heap.size W2 W7) := Lib.hid (HB2_6.out.trans ((by rw [← HW7.out]; exact (Below.refl _ _).alloc (Nat.le_refl _) _ : Below W6.heap.size W6 W7).mono HB2_6.out.size))
  have HB3_7 : Hid (Below W3.heap.size W3 W7) := Lib.hid (HB3_6.out.trans ((by rw [← HW7.out]; exact (Below.refl _ _).alloc (Nat.le_refl _) _ : Below W6.heap.size W6 W7).mono HB3_6.out.size))
  have HB4_7 : Hid (Below W4.heap.size W4 W7) := Lib.hid (HB4_6.out.trans ((by rw [← HW7.out]; exact (Below.refl _ _).alloc (Nat.le_refl _) _ : Below W6.heap.size W6 W7).mono HB4_6.out.size))
  have HB5_7 : Hid (Below W5.heap.size W5 W7) := Lib.hid (HB5_6.out.trans ((by rw [← HW7.out]; exact (Below.refl _ _).alloc (Nat.le_refl _) _ : Below W6.heap.size W6 W7).mono HB5_6.out.size))
  have HB6_7 : Hid (Below W6.heap.size W6 W7) := Lib.hid (by rw [← HW7.out]; exact (Below.refl _ _).alloc (Nat.le_refl _) _)
  have HX6_7 : Hid (∀ W, Below W7.heap.size W7 W → W.heap[W6.heap.size]? = some (.cells #[.int .i64 4, .int .i64 10, .int .i64 0, .int .i64 30] 23 (0, 0))) := Lib.hid (fun W hb => (hb.block _ (by rw [← HW7.out]; simp)).trans (by rw [← HW7.out]; exact heap_alloc_new _ _))
  rw [HW7.out]
  obtain ⟨k2_0, k2_1, k2_2, k2_3⟩ := cells4 (HX2_3.out W7 HB3_7.out)
  obtain ⟨k1_0, k1_1, k1_2, k1_3, k1_4, k1_5, k1_6, k1_7, k1_8, k1_9, k1_10, k1_11⟩ := order.cells12 (HX1_1.out W7 HB1_7.out)
  go_wp2_with fail
  refine Calls.mono (go_is 0 10 0 30 1 0 0 1 10 3 0 2 0 0 0 false (by simp [Ce.fine, frame.inR]) (by simp [order.Or.fine, frame.inR]) (by decide +kernel : go ⟨0, 10, 0, 30⟩ ⟨1, 0, 0, 1, 10, 3, 0, 2, 0, 0, 0, false⟩ = (⟨0, 0, 0, 0⟩, 0)) _) ?_
  rintro e8 W8 ⟨rfl, hb⟩
  have HBw8 : Hid (Below W0.heap.size W0 W8) := Lib.hid (HBw7.out.trans ((hb : Below W7.heap.size W7 W8).mono HBw7.out.size))
  have HB0_8 : Hid (Below W0.heap.size W0 W8) := Lib.hid (HB0_7.out.trans ((hb : Below W7.heap.size W7 W8).mono HB0_7.out.size))
  have HB1_8 : Hid (Below W1.heap.size W1 W8) := Lib.hid (HB1_7.out.trans ((hb : Below W7.heap.size W7 W8).mono HB1_7.out.size))
  have HB2_8 : Hid (Below W2.heap.size W2 W8) := Lib.hid (HB2_7.out.trans ((hb : Below W7.heap.size W7 W8).mono HB2_7.out.size))
  have HB3_8 : Hid (Below W3.heap.size W3 W8) := Lib.hid (HB3_7.out.trans ((hb : Below W7.heap.size W7 W8).mono HB3_7.out.size))
  have HB4_8 : Hid (Below W4.heap.size W4 W8) := Lib.hid (HB4_7.out.trans ((hb : Below W7.heap.size W7 W8).mono HB4_7.out.size))
  have HB5_8 : Hid (Below W5.heap.size W5 W8) := Lib.hid (HB5_7.out.trans ((hb : Below W7.heap.size W7 W8).mono HB5_7.out.size))
  have HB6_8 : Hid (Below W6.heap.size W6 W8) := Lib.hid (HB6_7.out.trans ((hb : Below W7.heap.size W7 W8).mono HB6_7.out.size))
  have HB7_8 : Hid (Below W7.heap.size W7 W8) := Lib.hid (hb)
  clear hb
  clear k2_0 k2_1 k2_2 k2_3 k1_0 k1_1 k1_2 k1_3 k1_4 k1_5 k1_6 k1_7 k1_8 k1_9 k1_10 k1_11
  go_upto_region 6 with fail
  obtain ⟨W9, HW9⟩ : ∃ W, Hid ((W8.alloc (.cells #[.int .i64 0, .int .i64 0, .int .i64 0, .int .i64 0] 23)) = W) := ⟨_, Lib.hid rfl⟩
  have NE_9_8_1 : Hid (W0.heap.size ≠ W8.heap.size) := Lib.hid (Nat.ne_of_lt (Array.getElem?_eq_some_iff.1 (HX1_1.out W8 HB1_8.out)).1)
  have NE_9_8_2 : Hid (W2.heap.size ≠ W8.heap.size) := Lib.hid (Nat.ne_of_lt (Array.getElem?_eq_some_iff.1 (HX2_3.out W8 HB3_8.out)).1)
  have NE_9_8_4 : Hid (W4.heap.size ≠ W8.heap.size) := Lib.hid (Nat.ne_of_lt (Array.getElem?_eq_some_iff.1 (HX4_5.out W8 HB5_8.out)).1)
  have NE_9_8_6 : Hid (W6.heap.size ≠ W8.heap.size) := Lib.hid (Nat.ne_of_lt (Array.getElem?_eq_some_iff.1 (HX6_7.out W8 HB7_8.out)).1)
  have LE_9 : Hid (W0.heap.size ≤ W8.heap.size) := Lib.hid HBw8.out.size
  have HBw9 : Hid (Below W0.heap.size W0 W9) := Lib.hid (HBw8.out.trans ((by rw [← HW9.out]; exact (Below.refl _ _).alloc (Nat.le_refl _) _ : Below W8.heap.size W8 W9).mono HBw8.out.size))
  have HB0_9 : Hid (Below W0.heap.size W0 W9) := Lib.hid (HB0_8.out.trans ((by rw [← HW9.out]; exact (Below.refl _ _).alloc (Nat.le_refl _) _ : Below W8.heap.size W8 W9).mono HB0_8.out.size))
  have HB1_9 : Hid (Below W1.heap.size W1 W9) := Lib.hid (HB1_8.out.trans ((by rw [← HW9.out]; exact (Below.refl _ _).alloc (Nat.le_refl _) _ : Below W8.heap.size W8 W9).mono HB1_8.out.size))
  have HB2_9 : Hid (Below W2.heap.size W2 W9) := Lib.hid (HB2_8.out.trans ((by rw [← HW9.out]; exact (Below.refl _ _).alloc (Nat.le_refl _) _ : Below W8.heap.size W8 W9).mono HB2_8.out.size))
  have HB3_9 : Hid (Below W3.heap.size W3 W9) := Lib.hid (HB3_8.out.trans ((by rw [← HW9.out]; exact (Below.refl _ _).alloc (Nat.le_refl _) _ : Below W8.heap.size W8 W9).mono HB3_8.out.size))
  have HB4_9 : Hid (Below W4.heap.size W4 W9) := Lib.hid (HB4_8.out.trans ((by rw [← HW9.out]; exact (Below.refl _ _).alloc (Nat.le_refl _) _ : Below W8.heap.size W8 W9).mono HB4_8.out.size))
  have HB5_9 : Hid (Below W5.heap.size W5 W9) := Lib.hid (HB5_8.out.trans ((by rw [← HW9.out]; exact (Below.refl _ _).alloc (Nat.le_refl _) _ : Below W8.heap.size W8 W9).mono HB5_8.out.size))
  have HB6_9 : Hid (Below W6.heap.size W6 W9) := Lib.hid (HB6_8.out.trans ((by rw [← HW9.out]; exact (Below.refl _ _).alloc (Nat.le_refl _) _ : Below W8.heap.size W8 W9).mono HB6_8.out.size))
  have HB7_9 : Hid (Below W7.heap.size W7 W9) := Lib.hid (HB7_8.out.trans ((by rw [← HW9.out]; exact (Below.refl _ _).alloc (Nat.le_refl _) _ : Below W8.heap.size W8 W9).mono HB7_8.out.size))
  have HB8_9 : Hid (Below W8.heap.size W8 W9) := Lib.hid (by rw [← HW9.out]; exact (Below.refl _ _).alloc (Nat.le_refl _) _)
  have HX8_9 : Hid (∀ W, Below W9.heap.size W9 W → W.heap[W8.heap.size]? = some (.cells #[.int .i64 0, .int .i64 0, .int .i64 0, .int .i64 0] 23 (0, 0))) := Lib.hid (fun W hb => (hb.block _ (by rw [← HW9.out]; simp)).trans (by rw [← HW9.out]; exact heap_alloc_new _ _))
  rw [HW9.out]
  obtain ⟨k2_0, k2_1, k2_2, k2_3⟩ := cells4 (HX2_3.out W9 HB3_9.out)
  go_wp2_with fail
  refine Calls.mono (did_is 0 10 0 30 0 1 (by simp [Ce.fine, frame.inR]) (by simp [frame.inR]) (by simp [frame.inR]) (by decide +kernel : did ⟨0, 10, 0, 30⟩ 0 1 = (⟨0, 10, 0, 30⟩, 1)) _) ?_
  rintro e10 W10 ⟨rfl, hb⟩
  have HBw10 : Hid (Below W0.heap.size W0 W10) := Lib.hid (HBw9.out.trans ((hb : Below W9.heap.size W9 W10).mono HBw9.out.size))
  have HB0_10 : Hid (Below W0.heap.size W0 W10) := Lib.hid (HB0_9.out.trans ((hb : Below W9.heap.size W9 W10).mono HB0_9.out.size))
  have HB1_10 : Hid (Below W1.heap.size W1 W10) := Lib.hid (HB1_9.out.trans ((hb : Below W9.heap.size W9 W10).mono HB1_9.out.size))
  have HB2_10 : Hid (Below W2.heap.size W2 W10) := Lib.hid (HB2_9.out.trans ((hb : Below W9.heap.size W9 W10).mono HB2_9.out.size))
  have HB3_10 : Hid (Below W3.heap.size W3 W10) := Lib.hid (HB3_9.out.trans ((hb : Below W9.heap.size W9 W10).mono HB3_9.out.size))
  have HB4_10 : Hid (Below W4.heap.size W4 W10) := Lib.hid (HB4_9.out.trans ((hb : Below W9.heap.size W9 W10).mono HB4_9.out.size))
  have HB5_10 : Hid (Below W5.heap.size W5 W10) := Lib.hid (HB5_9.out.trans ((hb : Below W9.heap.size W9 W10).mono HB5_9.out.size))
  have HB6_10 : Hid (Below W6.heap.size W6 W10) := Lib.hid (HB6_9.out.trans ((hb : Below W9.heap.size W9 W10).mono HB6_9.out.size))
  have HB7_10 : Hid (Below W7.heap.size W7 W10) := Lib.hid (HB7_9.out.trans ((hb : Below W9.heap.size W9 W10).mono HB7_9.out.size))
  have HB8_10 : Hid (Below W8.heap.size W8 W10) := Lib.hid (HB8_9.out.trans ((hb : Below W9.heap.size W9 W10).mono HB8_9.out.size))
  have HB9_10 : Hid (Below W9.heap.size W9 W10) := Lib.hid (hb)
  clear hb
  clear k2_0 k2_1 k2_2 k2_3
  go_upto_region 7 with fail
  obtain ⟨W11, HW11⟩ : ∃ W, Hid ((W10.alloc (.cells #[.int .i64 0, .int .i64 10, .int .i64 0, .int .i64 30] 23)) = W) := ⟨_, Lib.hid rfl⟩
  have NE_11_10_1 : Hid (W0.heap.size ≠ W10.heap.size) := Lib.hid (Nat.ne_of_lt (Array.getElem?_eq_some_iff.1 (HX1_1.out W10 HB1_10.out)).1)
  have NE_11_10_2 : Hid (W2.heap.size ≠ W10.heap.size) := Lib.hid (Nat.ne_of_lt (Array.getElem?_eq_some_iff.1 (HX2_3.out W10 HB3_10.out)).1)
  have NE_11_10_4 : Hid (W4.heap.size ≠ W10.heap.size) := Lib.hid (Nat.ne_of_lt (Array.getElem?_eq_some_iff.1 (HX4_5.out W10 HB5_10.out)).1)
  have NE_11_10_6 : Hid (W6.heap.size ≠ W10.heap.size) := Lib.hid (Nat.ne_of_lt (Array.getElem?_eq_some_iff.1 (HX6_7.out W10 HB7_10.out)).1)
  have NE_11_10_8 : Hid (W8.heap.size ≠ W10.heap.size) := Lib.hid (Nat.ne_of_lt (Array.getElem?_eq_some_iff.1 (HX8_9.out W10 HB9_10.out)).1)
  have LE_11 : Hid (W0.heap.size ≤ W10.heap.size) := Lib.hid HBw10.out.size
  have HBw11 : Hid (Below W0.heap.size W0 W11) := Lib.hid (HBw10.out.trans ((by rw [← HW11.out]; exact (Below.refl _ _).alloc (Nat.le_refl _) _ : Below W10.heap.size W10 W11).mono HBw10.out.size))
  have HB0_11 : Hid (Below W0.heap.size W0 W11) := Lib.hid (HB0_10.out.trans ((by rw [← HW11.out]; exact (Below.refl _ _).alloc (Nat.le_refl _) _ : Below W10.heap.size W10 W11).mono HB0_10.out.size))
  have HB1_11 : Hid (Below W1.heap.size W1 W11) := Lib.hid (HB1_10.out.trans ((by rw [← HW11.out]; exact (Below.refl _ _).alloc (Nat.le_refl _) _ : Below W10.heap.size W10 W11).mono HB1_10.out.size))
  have HB2_11 : Hid (Below W2.heap.size W2 W11) := Lib.hid (HB2_10.out.trans ((by rw [← HW11.out]; exact (Below.refl _ _).alloc (Nat.le_refl _) _ : Below W10.heap.size W10 W11).mono HB2_10.out.size))
  have HB3_11 : Hid (Below W3.heap.size W3 W11) := Lib.hid (HB3_10.out.trans ((by rw [← HW11.out]; exact (Below.refl _ _).alloc (Nat.le_refl _) _ : Below W10.heap.size W10 W11).mono HB3_10.out.size))
  have HB4_11 : Hid (Below W4.heap.size W4 W11) := Lib.hid (HB4_10.out.trans ((by rw [← HW11.out]; exact (Below.refl _ _).alloc (Nat.le_refl _) _ : Below W10.heap.size W10 W11).mono HB4_10.out.size))
  have HB5_11 : Hid (Below W5.heap.size W5 W11) := Lib.hid (HB5_10.out.trans ((by rw [← HW11.out]; exact (Below.refl _ _).alloc (Nat.le_refl _) _ : Below W10.heap.size W10 W11).mono HB5_10.out.size))
  have HB6_11 : Hid (Below W6.heap.size W6 W11) := Lib.hid (HB6_10.out.trans ((by rw [← HW11.out]; exact (Below.refl _ _).alloc (Nat.le_refl _) _ : Below W10.heap.size W10 W11).mono HB6_10.out.size))
  have HB7_11 : Hid (Below W7.heap.size W7 W11) := Lib.hid (HB7_10.out.trans ((by rw [← HW11.out]; exact (Below.refl _ _).alloc (Nat.le_refl _) _ : Below W10.heap.size W10 W11).mono HB7_10.out.size))
  have HB8_11 : Hid (Below W8.heap.size W8 W11) := Lib.hid (HB8_10.out.trans ((by rw [← HW11.out]; exact (Below.refl _ _).alloc (Nat.le_refl _) _ : Below W10.heap.size W10 W11).mono HB8_10.out.size))
  have HB9_11 : Hid (Below W9.heap.size W9 W11) := Lib.hid (HB9_10.out.trans ((by rw [← HW11.out]; exact (Below.refl _ _).alloc (Nat.le_refl _) _ : Below W10.heap.size W10 W11).mono HB9_10.out.size))
  have HB10_11 : Hid (Below W10.heap.size W10 W11) := Lib.hid (by rw [← HW11.out]; exact (Below.refl _ _).alloc (Nat.le_refl _) _)
  have HX10_11 : Hid (∀ W, Below W11.heap.size W11 W → W.heap[W10.heap.size]? = some (.cells #[.int .i64 0, .int .i64 10, .int .i64 0, .int .i64 30] 23 (0, 0))) := Lib.hid (fun W hb => (hb.block _ (by rw [← HW11.out]; simp)).trans (by rw [← HW11.out]; exact heap_alloc_new _ _))
  rw [HW11.out]
  have heq1 : ∀ W, (Op.equalIn 10000 27 (.agg #[.int .i64 10, .int .i64 0, .int .i64 30]) (.agg #[.int .i64 10, .int .i64 0, .int .i64 30])).run Try.prog W = .ok true W := fun W => eq3_of rfl rfl (by simp [Ex.fine, frame.inR]) (by simp [Ex.fine, frame.inR]) (decide_eq_true rfl) W
  have heq2 : ∀ W, (Op.equalIn 10000 23 (.agg #[.int .i64 0, .int .i64 0, .int .i64 0, .int .i64 0]) (.agg #[.int .i64 0, .int .i64 0, .int .i64 0, .int .i64 0])).run Try.prog W = .ok true W := fun W => eq4_of rfl rfl (by simp [Ce.fine, frame.inR]) (by simp [Ce.fine, frame.inR]) (decide_eq_true rfl) W
  obtain ⟨k4_0, k4_1, k4_2⟩ := cells3 (HX4_5.out W11 HB5_11.out)
  obtain ⟨k6_0, k6_1, k6_2, k6_3⟩ := cells4 (HX6_7.out W11 HB7_11.out)
  obtain ⟨k8_0, k8_1, k8_2, k8_3⟩ := cells4 (HX8_9.out W11 HB9_11.out)
  go_wp2_with fail
  refine Calls.mono (covers_is 10 0 30 10 0 30 (by decide +kernel : covers ⟨10, 0, 30⟩ ⟨10, 0, 30⟩ = true) _) ?_
  rintro e12 W12 ⟨rfl, hb⟩
  have HBw12 : Hid (Below W0.heap.size W0 W12) := Lib.hid (HBw11.out.trans ((hb : Below W11.heap.size W11 W12).mono HBw11.out.size))
  have HB0_12 : Hid (Below W0.heap.size W0 W12) := Lib.hid (HB0_11.out.trans ((hb : Below W11.heap.size W11 W12).mono HB0_11.out.size))
  have HB1_12 : Hid (Below W1.heap.size W1 W12) := Lib.hid (HB1_11.out.trans ((hb : Below W11.heap.size W11 W12).mono HB1_11.out.size))
  have HB2_12 : Hid (Below W2.heap.size W2 W12) := Lib.hid (HB2_11.out.trans ((hb : Below W11.heap.size W11 W12).mono HB2_11.out.size))
  have HB3_12 : Hid (Below W3.heap.size W3 W12) := Lib.hid (HB3_11.out.trans ((hb : Below W11.heap.size W11 W12).mono HB3_11.out.size))
  have HB4_12 : Hid (Below W4.heap.size W4 W12) := Lib.hid (HB4_11.out.trans ((hb : Below W11.heap.size W11 W12).mono HB4_11.out.size))
  have HB5_12 : Hid (Below W5.heap.size W5 W12) := Lib.hid (HB5_11.out.trans ((hb : Below W11.heap.size W11 W12).mono HB5_11.out.size))
  have HB6_12 : Hid (Below W6.heap.size W6 W12) := Lib.hid (HB6_11.out.trans ((hb : Below W11.heap.size W11 W12).mono HB6_11.out.size))
  have HB7_12 : Hid (Below W7.heap.size W7 W12) := Lib.hid (HB7_11.out.trans ((hb : Below W11.heap.size W11 W12).mono HB7_11.out.size))
  have HB8_12 : Hid (Below W8.heap.size W8 W12) := Lib.hid (HB8_11.out.trans ((hb : Below W11.heap.size W11 W12).mono HB8_11.out.size))
  have HB9_12 : Hid (Below W9.heap.size W9 W12) := Lib.hid (HB9_11.out.trans ((hb : Below W11.heap.size W11 W12).mono HB9_11.out.size))
  have HB10_12 : Hid (Below W10.heap.size W10 W12) := Lib.hid (HB10_11.out.trans ((hb : Below W11.heap.size W11 W12).mono HB10_11.out.size))
  have HB11_12 : Hid (Below W11.heap.size W11 W12) := Lib.hid (hb)
  clear hb
  clear k4_0 k4_1 k4_2 k6_0 k6_1 k6_2 k6_3 k8_0 k8_1 k8_2 k8_3
  obtain ⟨k4_0, k4_1, k4_2⟩ := cells3 (HX4_5.out W12 HB5_12.out)
  go_wp2_with fail
  refine Calls.mono (covers_is 0 0 0 10 0 30 (by decide +kernel : covers ⟨0, 0, 0⟩ ⟨10, 0, 30⟩ = false) _) ?_
  rintro e13 W13 ⟨rfl, hb⟩
  have HBw13 : Hid (Below W0.heap.size W0 W13) := Lib.hid (HBw12.out.trans ((hb : Below W12.heap.size W12 W13).mono HBw12.out.size))
  have HB0_13 : Hid (Below W0.heap.size W0 W13) := Lib.hid (HB0_12.out.trans ((hb : Below W12.heap.size W12 W13).mono HB0_12.out.size))
  have HB1_13 : Hid (Below W1.heap.size W1 W13) := Lib.hid (HB1_12.out.trans ((hb : Below W12.heap.size W12 W13).mono HB1_12.out.size))
  have HB2_13 : Hid (Below W2.heap.size W2 W13) := Lib.hid (HB2_12.out.trans ((hb : Below W12.heap.size W12 W13).mono HB2_12.out.size))
  have HB3_13 : Hid (Below W3.heap.size W3 W13) := Lib.hid (HB3_12.out.trans ((hb : Below W12.heap.size W12 W13).mono HB3_12.out.size))
  have HB4_13 : Hid (Below W4.heap.size W4 W13) := Lib.hid (HB4_12.out.trans ((hb : Below W12.heap.size W12 W13).mono HB4_12.out.size))
  have HB5_13 : Hid (Below W5.heap.size W5 W13) := Lib.hid (HB5_12.out.trans ((hb : Below W12.heap.size W12 W13).mono HB5_12.out.size))
  have HB6_13 : Hid (Below W6.heap.size W6 W13) := Lib.hid (HB6_12.out.trans ((hb : Below W12.heap.size W12 W13).mono HB6_12.out.size))
  have HB7_13 : Hid (Below W7.heap.size W7 W13) := Lib.hid (HB7_12.out.trans ((hb : Below W12.heap.size W12 W13).mono HB7_12.out.size))
  have HB8_13 : Hid (Below W8.heap.size W8 W13) := Lib.hid (HB8_12.out.trans ((hb : Below W12.heap.size W12 W13).mono HB8_12.out.size))
  have HB9_13 : Hid (Below W9.heap.size W9 W13) := Lib.hid (HB9_12.out.trans ((hb : Below W12.heap.size W12 W13).mono HB9_12.out.size))
  have HB10_13 : Hid (Below W10.heap.size W10 W13) := Lib.hid (HB10_12.out.trans ((hb : Below W12.heap.size W12 W13).mono HB10_12.out.size))
  have HB11_13 : Hid (Below W11.heap.size W11 W13) := Lib.hid (HB11_12.out.trans ((hb : Below W12.heap.size W12 W13).mono HB11_12.out.size))
  have HB12_13 : Hid (Below W12.heap.size W12 W13) := Lib.hid (hb)
  clear hb
  clear k4_0 k4_1 k4_2
  obtain ⟨k6_0, k6_1, k6_2, k6_3⟩ := cells4 (HX6_7.out W13 HB7_13.out)
  go_wp2_with fail
  refine Calls.mono (right_is 4 10 0 30 (by simp [Ce.fine, frame.inR]) (by decide +kernel : right ⟨4, 10, 0, 30⟩ = true) _) ?_
  rintro e14 W14 ⟨rfl, hb⟩
  have HBw14 : Hid (Below W0.heap.size W0 W14) := Lib.hid (HBw13.out.trans ((hb : Below W13.heap.size W13 W14).mono HBw13.out.size))
  have HB0_14 : Hid (Below W0.heap.size W0 W14) := Lib.hid (HB0_13.out.trans ((hb : Below W13.heap.size W13 W14).mono HB0_13.out.size))
  have HB1_14 : Hid (Below W1.heap.size W1 W14) := Lib.hid (HB1_13.out.trans ((hb : Below W13.heap.size W13 W14).mono HB1_13.out.size))
  have HB2_14 : Hid (Below W2.heap.size W2 W14) := Lib.hid (HB2_13.out.trans ((hb : Below W13.heap.size W13 W14).mono HB2_13.out.size))
  have HB3_14 : Hid (Below W3.heap.size W3 W14) := Lib.hid (HB3_13.out.trans ((hb : Below W13.heap.size W13 W14).mono HB3_13.out.size))
  have HB4_14 : Hid (Below W4.heap.size W4 W14) := Lib.hid (HB4_13.out.trans ((hb : Below W13.heap.size W13 W14).mono HB4_13.out.size))
  have HB5_14 : Hid (Below W5.heap.size W5 W14) := Lib.hid (HB5_13.out.trans ((hb : Below W13.heap.size W13 W14).mono HB5_13.out.size))
  have HB6_14 : Hid (Below W6.heap.size W6 W14) := Lib.hid (HB6_13.out.trans ((hb : Below W13.heap.size W13 W14).mono HB6_13.out.size))
  have HB7_14 : Hid (Below W7.heap.size W7 W14) := Lib.hid (HB7_13.out.trans ((hb : Below W13.heap.size W13 W14).mono HB7_13.out.size))
  have HB8_14 : Hid (Below W8.heap.size W8 W14) := Lib.hid (HB8_13.out.trans ((hb : Below W13.heap.size W13 W14).mono HB8_13.out.size))
  have HB9_14 : Hid (Below W9.heap.size W9 W14) := Lib.hid (HB9_13.out.trans ((hb : Below W13.heap.size W13 W14).mono HB9_13.out.size))
  have HB10_14 : Hid (Below W10.heap.size W10 W14) := Lib.hid (HB10_13.out.trans ((hb : Below W13.heap.size W13 W14).mono HB10_13.out.size))
  have HB11_14 : Hid (Below W11.heap.size W11 W14) := Lib.hid (HB11_13.out.trans ((hb : Below W13.heap.size W13 W14).mono HB11_13.out.size))
  have HB12_14 : Hid (Below W12.heap.size W12 W14) := Lib.hid (HB12_13.out.trans ((hb : Below W13.heap.size W13 W14).mono HB12_13.out.size))
  have HB13_14 : Hid (Below W13.heap.size W13 W14) := Lib.hid (hb)
  clear hb
  clear k6_0 k6_1 k6_2 k6_3
  go_wp2_with fail
  go_ret
  exact ⟨rec.retB (by first | rfl | (simp; done) | (simp; omega)), HBw14.out⟩

end Go.Proofs.Ytkpapjdlpjjmbaa.cell
