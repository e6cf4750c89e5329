/-
  The fixed answer of layer 9.
-/
import Derived.Test.YtiebaiehoebhfaaLimImpl
import Derived.Test.YtiebaiehoebhfaaWhole
import Derived.Test.YtiebaiehoebhfaaRet
import Derived.Deep.DeepCutAuto
import Derived.Deep.DrawnRows
import Derived.Deep.RegionHeld
namespace Go.Proofs.Ytiebaiehoebhfaa.limit
open Go.RowKit Go.Proofs.Ytiebaiehoebhfaa Go.Proofs.Ytiebaiehoebhfaa.cell
set_option linter.unusedVariables false
set_option linter.unusedSimpArgs false
attribute [local go_sem] undef
attribute [local go_sem ↓] Go.wp_at_zero Go.wp_at_succ
set_option maxRecDepth 20000
set_option maxHeartbeats 8000000

theorem awake_any (W0 : World) : Calls Try.prog 6 #[] W0 fun e w' => e = .returned (.bool true) ∧ Below W0.heap.size W0 w' := by
  have HBw0 : Hid (Below W0.heap.size W0 W0) := Lib.hid (Below.refl _ _)
  go_enter Try.func6, Try.ntmps6
  go_upto_region 2 with fail
  obtain ⟨W1, HW1⟩ : ∃ W, Hid ((W0.alloc (.cells #[.int .i64 5, .int .i64 5, .int .i64 5] 23)) = W) := ⟨_, Lib.hid rfl⟩
  have LE_1 : Hid (W0.heap.size ≤ W0.heap.size) := Lib.hid HBw0.out.size
  have HBw1 : Hid (Below W0.heap.size W0 W1) := Lib.hid (HBw0.out.trans ((by rw [← HW1.out]; exact (Below.refl _ _).alloc (Nat.le_refl _) _ : Below W0.heap.size W0 W1).mono HBw0.out.size))
  have HB0_1 : Hid (Below W0.heap.size W0 W1) := Lib.hid (by rw [← HW1.out]; exact (Below.refl _ _).alloc (Nat.le_refl _) _)
  have HX1_1 : Hid (∀ W, Below W1.heap.size W1 W → W.heap[W0.heap.size]? = some (.cells #[.int .i64 5, .int .i64 5, .int .i64 5] 23 (0, 0))) := Lib.hid (fun W hb => (hb.block _ (by rw [← HW1.out]; simp)).trans (by rw [← HW1.out]; exact heap_alloc_new _ _))
  rw [HW1.out]
  go_wp2_with fail
  obtain ⟨W2, HW2⟩ : ∃ W, Hid ((W1.alloc (.cells #[.int .i64 0, .int .i64 0, .int .i64 0, .int .i64 3, .int .i64 0, .int .i64 0, .int .i64 0, .int .i64 4] 39)) = W) := ⟨_, Lib.hid rfl⟩
  have NE_2_8_1 : Hid (W0.heap.size ≠ W1.heap.size) := Lib.hid (Nat.ne_of_lt (Array.getElem?_eq_some_iff.1 (HX1_1.out W1 (Below.refl _ _))).1)
  have LE_2 : Hid (W0.heap.size ≤ W1.heap.size) := Lib.hid HBw1.out.size
  have HBw2 : Hid (Below W0.heap.size W0 W2) := Lib.hid (HBw1.out.trans ((by rw [← HW2.out]; exact (Below.refl _ _).alloc (Nat.le_refl _) _ : Below W1.heap.size W1 W2).mono HBw1.out.size))
  have HB0_2 : Hid (Below W0.heap.size W0 W2) := Lib.hid (HB0_1.out.trans ((by rw [← HW2.out]; exact (Below.refl _ _).alloc (Nat.le_refl _) _ : Below W1.heap.size W1 W2).mono HB0_1.out.size))
  have HB1_2 : Hid (Below W1.heap.size W1 W2) := Lib.hid (by rw [← HW2.out]; exact (Below.refl _ _).alloc (Nat.le_refl _) _)
  have HX8_2 : Hid (∀ W, Below W2.heap.size W2 W → W.heap[W1.heap.size]? = some (.cells #[.int .i64 0, .int .i64 0, .int .i64 0, .int .i64 3, .int .i64 0, .int .i64 0, .int .i64 0, .int .i64 4] 39 (0, 0))) := Lib.hid (fun W hb => (hb.block _ (by rw [← HW2.out]; simp)).trans (by rw [← HW2.out]; exact heap_alloc_new _ _))
  rw [HW2.out]
  refine Calls.mono (whole_is (some ⟨W1.heap.size, 0, none⟩) 2 2 _ [⟨0, 0, 0, 3⟩, ⟨0, 0, 0, 4⟩] _ (cls_block (HX8_2.out W2 (Below.refl _ _)) [⟨0, 0, 0, 3⟩, ⟨0, 0, 0, 4⟩] rfl (by simp [Ce.fine, frame.inR])) (Nat.le_refl _) rfl (by omega) (by decide +kernel : whole [⟨0, 0, 0, 3⟩, ⟨0, 0, 0, 4⟩] = (7, 0))) ?_
  rintro e3 W3 ⟨rfl, hb⟩
  have HBw3 : Hid (Below W0.heap.size W0 W3) := Lib.hid (HBw2.out.trans ((hb : Below W2.heap.size W2 W3).mono HBw2.out.size))
  have HB0_3 : Hid (Below W0.heap.size W0 W3) := Lib.hid (HB0_2.out.trans ((hb : Below W2.heap.size W2 W3).mono HB0_2.out.size))
  have HB1_3 : Hid (Below W1.heap.size W1 W3) := Lib.hid (HB1_2.out.trans ((hb : Below W2.heap.size W2 W3).mono HB1_2.out.size))
  have HB2_3 : Hid (Below W2.heap.size W2 W3) := Lib.hid (hb)
  clear hb
  obtain ⟨k1_0, k1_1, k1_2⟩ := cells3 (HX1_1.out W3 HB1_3.out)
  go_wp2_with fail
  refine Calls.mono (right_is 5 5 5 (by decide +kernel : limit.right ⟨5, 5, 5⟩ = true) _) ?_
  rintro e4 W4 ⟨rfl, hb⟩
  have HBw4 : Hid (Below W0.heap.size W0 W4) := Lib.hid (HBw3.out.trans ((hb : Below W3.heap.size W3 W4).mono HBw3.out.size))
  have HB0_4 : Hid (Below W0.heap.size W0 W4) := Lib.hid (HB0_3.out.trans ((hb : Below W3.heap.size W3 W4).mono HB0_3.out.size))
  have HB1_4 : Hid (Below W1.heap.size W1 W4) := Lib.hid (HB1_3.out.trans ((hb : Below W3.heap.size W3 W4).mono HB1_3.out.size))
  have HB2_4 : Hid (Below W2.heap.size W2 W4) := Lib.hid (HB2_3.out.trans ((hb : Below W3.heap.size W3 W4).mono HB2_3.out.size))
  have HB3_4 : Hid (Below W3.heap.size W3 W4) := Lib.hid (hb)
  clear hb
  clear k1_0 k1_1 k1_2
  obtain ⟨k1_0, k1_1, k1_2⟩ := cells3 (HX1_1.out W4 HB1_4.out)
  go_wp2_with fail
  refine Calls.mono (against_is 5 0 0 6 0 0 5 5 5 (by decide +kernel : against ⟨5, 0, 0⟩ ⟨6, 0, 0⟩ ⟨5, 5, 5⟩ = true) _) ?_
  rintro e5 W5 ⟨rfl, hb⟩
  have HBw5 : Hid (Below W0.heap.size W0 W5) := Lib.hid (HBw4.out.trans ((hb : Below W4.heap.size W4 W5).mono HBw4.out.size))
  have HB0_5 : Hid (Below W0.heap.size W0 W5) := Lib.hid (HB0_4.out.trans ((hb : Below W4.heap.size W4 W5).mono HB0_4.out.size))
  have HB1_5 : Hid (Below W1.heap.size W1 W5) := Lib.hid (HB1_4.out.trans ((hb : Below W4.heap.size W4 W5).mono HB1_4.out.size))
  have HB2_5 : Hid (Below W2.heap.size W2 W5) := Lib.hid (HB2_4.out.trans ((hb : Below W4.heap.size W4 W5).mono HB2_4.out.size))
  have HB3_5 : Hid (Below W3.heap.size W3 W5) := Lib.hid (HB3_4.out.trans ((hb : Below W4.heap.size W4 W5).mono HB3_4.out.size))
  have HB4_5 : Hid (Below W4.heap.size W4 W5) := Lib.hid (hb)
  clear hb
  clear k1_0 k1_1 k1_2
  obtain ⟨k1_0, k1_1, k1_2⟩ := cells3 (HX1_1.out W5 HB1_5.out)
  go_wp2_with fail
  refine Calls.mono (against_is 7 0 0 6 0 0 5 5 5 (by decide +kernel : against ⟨7, 0, 0⟩ ⟨6, 0, 0⟩ ⟨5, 5, 5⟩ = false) _) ?_
  rintro e6 W6 ⟨rfl, hb⟩
  have HBw6 : Hid (Below W0.heap.size W0 W6) := Lib.hid (HBw5.out.trans ((hb : Below W5.heap.size W5 W6).mono HBw5.out.size))
  have HB0_6 : Hid (Below W0.heap.size W0 W6) := Lib.hid (HB0_5.out.trans ((hb : Below W5.heap.size W5 W6).mono HB0_5.out.size))
  have HB1_6 : Hid (Below W1.heap.size W1 W6) := Lib.hid (HB1_5.out.trans ((hb : Below W5.heap.size W5 W6).mono HB1_5.out.size))
  have HB2_6 : Hid (Below W2.heap.size W2 W6) := Lib.hid (HB2_5.out.trans ((hb : Below W5.heap.size W5 W6).mono HB2_5.out.size))
  have HB3_6 : Hid (Below W3.heap.size W3 W6) := Lib.hid (HB3_5.out.trans ((hb : Below W5.heap.size W5 W6).mono HB3_5.out.size))
  have HB4_6 : Hid (Below W4.heap.size W4 W6) := Lib.hid (HB4_5.out.trans ((hb : Below W5.heap.size W5 W6).mono HB4_5.out.size))
  have HB5_6 : Hid (Below W5.heap.size W5 W6) := Lib.hid (hb)
  clear hb
  clear k1_0 k1_1 k1_2
  go_wp2_with fail
  refine Calls.mono (cap_is 0 6 5 (by decide +kernel : cap 0 6 5 = true) _) ?_
  rintro e7 W7 ⟨rfl, hb⟩
  have HBw7 : Hid (Below W0.heap.size W0 W7) := Lib.hid (HBw6.out.trans ((hb : Below W6.heap.size W6 W7).mono HBw6.out.size))
  have HB0_7 : Hid (Below W0.heap.size W0 W7) := Lib.hid (HB0_6.out.trans ((hb : Below W6.heap.size W6 W7).mono HB0_6.out.size))
  have HB1_7 : Hid (Below W1.heap.size W1 W7) := Lib.hid (HB1_6.out.trans ((hb : Below W6.heap.size W6 W7).mono HB1_6.out.size))
  have HB2_7 : Hid (Below W2.heap.size W2 W7) := Lib.hid (HB2_6.out.trans ((hb : Below W6.heap.size W6 W7).mono HB2_6.out.size))
  have HB3_7 : Hid (Below W3.heap.size W3 W7) := Lib.hid (HB3_6.out.trans ((hb : Below W6.heap.size W6 W7).mono HB3_6.out.size))
  have HB4_7 : Hid (Below W4.heap.size W4 W7) := Lib.hid (HB4_6.out.trans ((hb : Below W6.heap.size W6 W7).mono HB4_6.out.size))
  have HB5_7 : Hid (Below W5.heap.size W5 W7) := Lib.hid (HB5_6.out.trans ((hb : Below W6.heap.size W6 W7).mono HB5_6.out.size))
  have HB6_7 : Hid (Below W6.heap.size W6 W7) := Lib.hid (hb)
  clear hb
  obtain ⟨k1_0, k1_1, k1_2⟩ := cells3 (HX1_1.out W7 HB1_7.out)
  go_wp2_with fail
  refine Calls.mono (lowers_is 5 5 5 9 9 0 (by decide +kernel : lowers ⟨5, 5, 5⟩ ⟨9, 9, 0⟩ = true) _) ?_
  rintro e8 W8 ⟨rfl, hb⟩
  have HBw8 : Hid (Below W0.heap.size W0 W8) := Lib.hid (HBw7.out.trans ((hb : Below W7.heap.size W7 W8).mono HBw7.out.size))
  have HB0_8 : Hid (Below W0.heap.size W0 W8) := Lib.hid (HB0_7.out.trans ((hb : Below W7.heap.size W7 W8).mono HB0_7.out.size))
  have HB1_8 : Hid (Below W1.heap.size W1 W8) := Lib.hid (HB1_7.out.trans ((hb : Below W7.heap.size W7 W8).mono HB1_7.out.size))
  have HB2_8 : Hid (Below W2.heap.size W2 W8) := Lib.hid (HB2_7.out.trans ((hb : Below W7.heap.size W7 W8).mono HB2_7.out.size))
  have HB3_8 : Hid (Below W3.heap.size W3 W8) := Lib.hid (HB3_7.out.trans ((hb : Below W7.heap.size W7 W8).mono HB3_7.out.size))
  have HB4_8 : Hid (Below W4.heap.size W4 W8) := Lib.hid (HB4_7.out.trans ((hb : Below W7.heap.size W7 W8).mono HB4_7.out.size))
  have HB5_8 : Hid (Below W5.heap.size W5 W8) := Lib.hid (HB5_7.out.trans ((hb : Below W7.heap.size W7 W8).mono HB5_7.out.size))
  have HB6_8 : Hid (Below W6.heap.size W6 W8) := Lib.hid (HB6_7.out.trans ((hb : Below W7.heap.size W7 W8).mono HB6_7.out.size))
  have HB7_8 : Hid (Below W7.heap.size W7 W8) := Lib.hid (hb)
  clear hb
  clear k1_0 k1_1 k1_2
  go_wp2_with fail
  refine Calls.mono (right_is 0 0 (-1) (by decide +kernel : limit.right ⟨0, 0, (-1)⟩ = false) _) ?_
  rintro e9 W9 ⟨rfl, hb⟩
  have HBw9 : Hid (Below W0.heap.size W0 W9) := Lib.hid (HBw8.out.trans ((hb : Below W8.heap.size W8 W9).mono HBw8.out.size))
  have HB0_9 : Hid (Below W0.heap.size W0 W9) := Lib.hid (HB0_8.out.trans ((hb : Below W8.heap.size W8 W9).mono HB0_8.out.size))
  have HB1_9 : Hid (Below W1.heap.size W1 W9) := Lib.hid (HB1_8.out.trans ((hb : Below W8.heap.size W8 W9).mono HB1_8.out.size))
  have HB2_9 : Hid (Below W2.heap.size W2 W9) := Lib.hid (HB2_8.out.trans ((hb : Below W8.heap.size W8 W9).mono HB2_8.out.size))
  have HB3_9 : Hid (Below W3.heap.size W3 W9) := Lib.hid (HB3_8.out.trans ((hb : Below W8.heap.size W8 W9).mono HB3_8.out.size))
  have HB4_9 : Hid (Below W4.heap.size W4 W9) := Lib.hid (HB4_8.out.trans ((hb : Below W8.heap.size W8 W9).mono HB4_8.out.size))
  have HB5_9 : Hid (Below W5.heap.size W5 W9) := Lib.hid (HB5_8.out.trans ((hb : Below W8.heap.size W8 W9).mono HB5_8.out.size))
  have HB6_9 : Hid (Below W6.heap.size W6 W9) := Lib.hid (HB6_8.out.trans ((hb : Below W8.heap.size W8 W9).mono HB6_8.out.size))
  have HB7_9 : Hid (Below W7.heap.size W7 W9) := Lib.hid (HB7_8.out.trans ((hb : Below W8.heap.size W8 W9).mono HB7_8.out.size))
  have HB8_9 : Hid (Below W8.heap.size W8 W9) := Lib.hid (hb)
  clear hb
  go_wp2_with fail
  go_ret
  exact ⟨rec.retB (by first | rfl | (simp; done) | (simp; omega)), HBw9.out⟩

end Go.Proofs.Ytiebaiehoebhfaa.limit
