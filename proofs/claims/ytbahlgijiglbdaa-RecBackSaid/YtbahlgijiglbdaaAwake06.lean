/-
  The fixed answer of layer 6.
-/
import Derived.Test.YtbahlgijiglbdaaRecImpl6
namespace Go.Proofs.Ytbahlgijiglbdaa.rec
open Go.RowKit Go.Proofs.Ytbahlgijiglbdaa
set_option linter.unusedVariables false
attribute [local go_sem] undef
attribute [local go_sem ↓] Go.wp_at_zero Go.wp_at_succ

set_option maxHeartbeats 1000000 in
theorem awake_any (w : World) : Calls Try.prog 6 #[] w fun e w' => e = .returned (.bool true) ∧ Below w.heap.size w w' := by
  obtain ⟨W0, HW0⟩ : ∃ W, Hid ((w.alloc (.cells #[.int .i64 1, .int .i64 7, .int .i64 1, .int .i64 2, .int .i64 2, .int .i64 5, .int .i64 9, .int .i64 0, .int .i64 0, .int .i64 0, .bool false, .int .i64 0, .int .i64 0] 23)) = W) := ⟨_, Lib.hid rfl⟩
  have HBW : Hid (Below w.heap.size w W0) := Lib.hid (by rw [← HW0.out]; exact (Below.refl _ _).alloc (by simp) _)
  have HX0 : Hid (∀ W, Below W0.heap.size W0 W → W.heap[w.heap.size]? = some (.cells #[.int .i64 1, .int .i64 7, .int .i64 1, .int .i64 2, .int .i64 2, .int .i64 5, .int .i64 9, .int .i64 0, .int .i64 0, .int .i64 0, .bool false, .int .i64 0, .int .i64 0] 23 (0, 0))) := Lib.hid (fun W hb => (hb.block _ (by rw [← HW0.out]; simp; try omega)).trans (by rw [← HW0.out]; have := heap_alloc_new w (.cells #[.int .i64 1, .int .i64 7, .int .i64 1, .int .i64 2, .int .i64 2, .int .i64 5, .int .i64 9, .int .i64 0, .int .i64 0, .int .i64 0, .bool false, .int .i64 0, .int .i64 0] 23); exact this))
  have hf : (⟨1, 7, 1, 2, 2, 5, 9, 0, 0, 0, false, 0, 0⟩ : Rc).fine := by simp [Rc.fine, frame.inR]
  have hf6 : (⟨7, 1, 2, 2, 5, 9⟩ : Ns).fine := by simp [Ns.fine, frame.inR]
  have hfz : (⟨2, 0, 0, 0, 0, 0⟩ : Ns).fine := by simp [Ns.fine, frame.inR]
  have hk1 : frame.inR 1 := in1
  have hk5 : frame.inR 5 := by simp [frame.inR]
  have heq : ∀ W, (Op.equalIn 10000 23 (.agg #[.int .i64 1, .int .i64 7, .int .i64 1, .int .i64 2, .int .i64 2, .int .i64 5, .int .i64 9, .int .i64 0, .int .i64 0, .int .i64 0, .bool false, .int .i64 0, .int .i64 0]) (.agg #[.int .i64 1, .int .i64 7, .int .i64 1, .int .i64 2, .int .i64 2, .int .i64 5, .int .i64 9, .int .i64 0, .int .i64 0, .int .i64 0, .bool false, .int .i64 0, .int .i64 0])).run Try.prog W = .ok true W := fun W => eq13_of rfl rfl hf hf (decide_eq_true rfl) W
  have heq6 : ∀ W, (Op.equalIn 10000 24 (.agg #[.int .i64 7, .int .i64 1, .int .i64 2, .int .i64 2, .int .i64 5, .int .i64 9]) (.agg #[.int .i64 7, .int .i64 1, .int .i64 2, .int .i64 2, .int .i64 5, .int .i64 9])).run Try.prog W = .ok true W := fun W => eq6_of rfl rfl hf6 hf6 (decide_eq_true rfl) W
  have hfl : ∀ W, (Instr.field 23 (.agg #[.int .i64 6, .int .i64 0, .int .i64 0, .int .i64 0, .int .i64 0, .int .i64 0, .int .i64 0, .int .i64 0, .int .i64 0, .int .i64 0, .bool false, .int .i64 4, .int .i64 0]) 11).run Try.prog W = .ok (.int .i64 4) W := fun W => by
    first | kernel_rfl | (simp [Instr.field, Try.underlying23, go_sem]; rfl)
  have HF := Lib.hid hf
  have HF6 := Lib.hid hf6
  have HFZ := Lib.hid hfz
  clear hf hf6 hfz
  go_enter Try.func6, Try.ntmps6
  go_wp2_with fail
  refine Calls.mono (pack_is 1 7 1 2 2 5 9 0 0 0 false 0 0 HF.out (by rfl : pack ⟨1, 7, 1, 2, 2, 5, 9, 0, 0, 0, false, 0, 0⟩ = (⟨7, 1, 2, 2, 5, 9⟩, 0)) _) ?_
  rintro e1 W1 ⟨rfl, hb⟩
  rw [HW0.out] at hb
  have HB0_1 : Hid (Below W0.heap.size W0 W1) := Lib.hid (hb)
  clear hb
  obtain ⟨W2, HW2⟩ : ∃ W, Hid ((W1.alloc (.cells #[.int .i64 7, .int .i64 1, .int .i64 2, .int .i64 2, .int .i64 5, .int .i64 9] 24)) = W) := ⟨_, Lib.hid rfl⟩
  have HB0_2 : Hid (Below W0.heap.size W0 W2) := Lib.hid (HB0_1.out.trans ((by rw [← HW2.out]; exact (Below.refl _ _).alloc (Nat.le_refl _) _ : Below W1.heap.size W1 W2).mono HB0_1.out.size))
  have HB1_2 : Hid (Below W1.heap.size W1 W2) := Lib.hid (by rw [← HW2.out]; exact (Below.refl _ _).alloc (Nat.le_refl _) _)
  have HX_b : Hid (∀ W, Below W2.heap.size W2 W → W.heap[W1.heap.size]? = some (.cells #[.int .i64 7, .int .i64 1, .int .i64 2, .int .i64 2, .int .i64 5, .int .i64 9] 24 (0, 0))) := Lib.hid (fun W hb => (hb.block _ (by rw [← HW2.out]; simp)).trans (by rw [← HW2.out]; exact heap_alloc_new _ _))
  go_wp2_with fail
  refine Calls.mono (unp_is 1 7 1 2 2 5 9 hk1 HF6.out (by rfl : unp 1 ⟨7, 1, 2, 2, 5, 9⟩ = (⟨1, 7, 1, 2, 2, 5, 9, 0, 0, 0, false, 0, 0⟩, 0)) _) ?_
  rintro e3 W3 ⟨rfl, hb⟩
  rw [HW2.out] at hb
  have HB0_3 : Hid (Below W0.heap.size W0 W3) := Lib.hid (HB0_2.out.trans ((hb : Below W2.heap.size W2 W3).mono HB0_2.out.size))
  have HB1_3 : Hid (Below W1.heap.size W1 W3) := Lib.hid (HB1_2.out.trans ((hb : Below W2.heap.size W2 W3).mono HB1_2.out.size))
  have HB2_3 : Hid (Below W2.heap.size W2 W3) := Lib.hid (hb)
  clear hb
  obtain ⟨W4, HW4⟩ : ∃ W, Hid ((W3.alloc (.cells #[.int .i64 1, .int .i64 7, .int .i64 1, .int .i64 2, .int .i64 2, .int .i64 5, .int .i64 9, .int .i64 0, .int .i64 0, .int .i64 0, .bool false, .int .i64 0, .int .i64 0] 23)) = W) := ⟨_, Lib.hid rfl⟩
  have HB0_4 : Hid (Below W0.heap.size W0 W4) := Lib.hid (HB0_3.out.trans ((by rw [← HW4.out]; exact (Below.refl _ _).alloc (Nat.le_refl _) _ : Below W3.heap.size W3 W4).mono HB0_3.out.size))
  have HB1_4 : Hid (Below W1.heap.size W1 W4) := Lib.hid (HB1_3.out.trans ((by rw [← HW4.out]; exact (Below.refl _ _).alloc (Nat.le_refl _) _ : Below W3.heap.size W3 W4).mono HB1_3.out.size))
  have HB2_4 : Hid (Below W2.heap.size W2 W4) := Lib.hid (HB2_3.out.trans ((by rw [← HW4.out]; exact (Below.refl _ _).alloc (Nat.le_refl _) _ : Below W3.heap.size W3 W4).mono HB2_3.out.size))
  have HB3_4 : Hid (Below W3.heap.size W3 W4) := Lib.hid (by rw [← HW4.out]; exact (Below.refl _ _).alloc (Nat.le_refl _) _)
  have HX_s : Hid (∀ W, Below W4.heap.size W4 W → W.heap[W3.heap.size]? = some (.cells #[.int .i64 1, .int .i64 7, .int .i64 1, .int .i64 2, .int .i64 2, .int .i64 5, .int .i64 9, .int .i64 0, .int .i64 0, .int .i64 0, .bool false, .int .i64 0, .int .i64 0] 23 (0, 0))) := Lib.hid (fun W hb => (hb.block _ (by rw [← HW4.out]; simp)).trans (by rw [← HW4.out]; exact heap_alloc_new _ _))
  obtain ⟨p0, p1, p2, p3, p4, p5, p6, p7, p8, p9, p10, p11, p12⟩ := cells13 (HX0.out W4 HB0_4.out)
  rw [← HW4.out] at p0 p1 p2 p3 p4 p5 p6 p7 p8 p9 p10 p11 p12
  go_wp2_with fail
  refine Calls.mono (frame_is 1 7 1 2 2 5 9 0 0 0 false 0 0 3 1 HF.out (by rfl : framed ⟨1, 7, 1, 2, 2, 5, 9, 0, 0, 0, false, 0, 0⟩ 3 1 = (⟨1, 3, 1, 7, 1, 2, 2, 5, 9⟩, 0)) _) ?_
  rintro e5 W5 ⟨rfl, hb⟩
  rw [HW4.out] at hb
  have HB0_5 : Hid (Below W0.heap.size W0 W5) := Lib.hid (HB0_4.out.trans ((hb : Below W4.heap.size W4 W5).mono HB0_4.out.size))
  have HB1_5 : Hid (Below W1.heap.size W1 W5) := Lib.hid (HB1_4.out.trans ((hb : Below W4.heap.size W4 W5).mono HB1_4.out.size))
  have HB2_5 : Hid (Below W2.heap.size W2 W5) := Lib.hid (HB2_4.out.trans ((hb : Below W4.heap.size W4 W5).mono HB2_4.out.size))
  have HB3_5 : Hid (Below W3.heap.size W3 W5) := Lib.hid (HB3_4.out.trans ((hb : Below W4.heap.size W4 W5).mono HB3_4.out.size))
  have HB4_5 : Hid (Below W4.heap.size W4 W5) := Lib.hid (hb)
  clear hb
  clear p0 p1 p2 p3 p4 p5 p6 p7 p8 p9 p10 p11 p12
  obtain ⟨W6, HW6⟩ : ∃ W, Hid ((W5.alloc (.cells #[.int .i64 1, .int .i64 3, .int .i64 1, .int .i64 7, .int .i64 1, .int .i64 2, .int .i64 2, .int .i64 5, .int .i64 9] 33)) = W) := ⟨_, Lib.hid rfl⟩
  have HB0_6 : Hid (Below W0.heap.size W0 W6) := Lib.hid (HB0_5.out.trans ((by rw [← HW6.out]; exact (Below.refl _ _).alloc (Nat.le_refl _) _ : Below W5.heap.size W5 W6).mono HB0_5.out.size))
  have HB1_6 : Hid (Below W1.heap.size W1 W6) := Lib.hid (HB1_5.out.trans ((by rw [← HW6.out]; exact (Below.refl _ _).alloc (Nat.le_refl _) _ : Below W5.heap.size W5 W6).mono HB1_5.out.size))
  have HB2_6 : Hid (Below W2.heap.size W2 W6) := Lib.hid (HB2_5.out.trans ((by rw [← HW6.out]; exact (Below.refl _ _).alloc (Nat.le_refl _) _ : Below W5.heap.size W5 W6).mono HB2_5.out.size))
  have HB3_6 : Hid (Below W3.heap.size W3 W6) := Lib.hid (HB3_5.out.trans ((by rw [← HW6.out]; exact (Below.refl _ _).alloc (Nat.le_refl _) _ : Below W5.heap.size W5 W6).mono HB3_5.out.size))
  have HB4_6 : Hid (Below W4.heap.size W4 W6) := Lib.hid (HB4_5.out.trans ((by rw [← HW6.out]; exact (Below.refl _ _).alloc (Nat.le_refl _) _ : Below W5.heap.size W5 W6).mono HB4_5.out.size))
  have HB5_6 : Hid (Below W5.heap.size W5 W6) := Lib.hid (by rw [← HW6.out]; exact (Below.refl _ _).alloc (Nat.le_refl _) _)
  have HX_g : Hid (∀ W, Below W6.heap.size W6 W → W.heap[W5.heap.size]? = some (.cells #[.int .i64 1, .int .i64 3, .int .i64 1, .int .i64 7, .int .i64 1, .int .i64 2, .int .i64 2, .int .i64 5, .int .i64 9] 33 (0, 0))) := Lib.hid (fun W hb => (hb.block _ (by rw [← HW6.out]; simp)).trans (by rw [← HW6.out]; exact heap_alloc_new _ _))
  go_wp2_with fail
  refine Calls.mono (of_is 1 3 1 7 1 2 2 5 9 hk1 HF6.out (by rfl : unp 1 ⟨7, 1, 2, 2, 5, 9⟩ = (⟨1, 7, 1, 2, 2, 5, 9, 0, 0, 0, false, 0, 0⟩, 0)) _) ?_
  rintro e7 W7 ⟨rfl, hb⟩
  rw [HW6.out] at hb
  have HB0_7 : Hid (Below W0.heap.size W0 W7) := Lib.hid (HB0_6.out.trans ((hb : Below W6.heap.size W6 W7).mono HB0_6.out.size))
  have HB1_7 : Hid (Below W1.heap.size W1 W7) := Lib.hid (HB1_6.out.trans ((hb : Below W6.heap.size W6 W7).mono HB1_6.out.size))
  have HB2_7 : Hid (Below W2.heap.size W2 W7) := Lib.hid (HB2_6.out.trans ((hb : Below W6.heap.size W6 W7).mono HB2_6.out.size))
  have HB3_7 : Hid (Below W3.heap.size W3 W7) := Lib.hid (HB3_6.out.trans ((hb : Below W6.heap.size W6 W7).mono HB3_6.out.size))
  have HB4_7 : Hid (Below W4.heap.size W4 W7) := Lib.hid (HB4_6.out.trans ((hb : Below W6.heap.size W6 W7).mono HB4_6.out.size))
  have HB5_7 : Hid (Below W5.heap.size W5 W7) := Lib.hid (HB5_6.out.trans ((hb : Below W6.heap.size W6 W7).mono HB5_6.out.size))
  have HB6_7 : Hid (Below W6.heap.size W6 W7) := Lib.hid (hb)
  clear hb
  obtain ⟨W8, HW8⟩ : ∃ W, Hid ((W7.alloc (.cells #[.int .i64 1, .int .i64 7, .int .i64 1, .int .i64 2, .int .i64 2, .int .i64 5, .int .i64 9, .int .i64 0, .int .i64 0, .int .i64 0, .bool false, .int .i64 0, .int .i64 0] 23)) = W) := ⟨_, Lib.hid rfl⟩
  have HB0_8 : Hid (Below W0.heap.size W0 W8) := Lib.hid (HB0_7.out.trans ((by rw [← HW8.out]; exact (Below.refl _ _).alloc (Nat.le_refl _) _ : Below W7.heap.size W7 W8).mono HB0_7.out.size))
  have HB1_8 : Hid (Below W1.heap.size W1 W8) := Lib.hid (HB1_7.out.trans ((by rw [← HW8.out]; exact (Below.refl _ _).alloc (Nat.le_refl _) _ : Below W7.heap.size W7 W8).mono HB1_7.out.size))
  have HB2_8 : Hid (Below W2.heap.size W2 W8) := Lib.hid (HB2_7.out.trans ((by rw [← HW8.out]; exact (Below.refl _ _).alloc (Nat.le_refl _) _ : Below W7.heap.size W7 W8).mono HB2_7.out.size))
  have HB3_8 : Hid (Below W3.heap.size W3 W8) := Lib.hid (HB3_7.out.trans ((by rw [← HW8.out]; exact (Below.refl _ _).alloc (Nat.le_refl _) _ : Below W7.heap.size W7 W8).mono HB3_7.out.size))
  have HB4_8 : Hid (Below W4.heap.size W4 W8) := Lib.hid (HB4_7.out.trans ((by rw [← HW8.out]; exact (Below.refl _ _).alloc (Nat.le_refl _) _ : Below W7.heap.size W7 W8).mono HB4_7.out.size))
  have HB5_8 : Hid (Below W5.heap.size W5 W8) := Lib.hid (HB5_7.out.trans ((by rw [← HW8.out]; exact (Below.refl _ _).alloc (Nat.le_refl _) _ : Below W7.heap.size W7 W8).mono HB5_7.out.size))
  have HB6_8 : Hid (Below W6.heap.size W6 W8) := Lib.hid (HB6_7.out.trans ((by rw [← HW8.out]; exact (Below.refl _ _).alloc (Nat.le_refl _) _ : Below W7.heap.size W7 W8).mono HB6_7.out.size))
  have HB7_8 : Hid (Below W7.heap.size W7 W8) := Lib.hid (by rw [← HW8.out]; exact (Below.refl _ _).alloc (Nat.le_refl _) _)
  have HX_t : Hid (∀ W, Below W8.heap.size W8 W → W.heap[W7.heap.size]? = some (.cells #[.int .i64 1, .int .i64 7, .int .i64 1, .int .i64 2, .int .i64 2, .int .i64 5, .int .i64 9, .int .i64 0, .int .i64 0, .int .i64 0, .bool false, .int .i64 0, .int .i64 0] 23 (0, 0))) := Lib.hid (fun W hb => (hb.block _ (by rw [← HW8.out]; simp)).trans (by rw [← HW8.out]; exact heap_alloc_new _ _))
  go_wp2_with fail
  refine Calls.mono (unp_is 5 2 0 0 0 0 0 hk5 HFZ.out (by rfl : unp 5 ⟨2, 0, 0, 0, 0, 0⟩ = (⟨0, 0, 0, 0, 0, 0, 0, 0, 0, 0, false, 0, 0⟩, 2)) _) ?_
  rintro e9 W9 ⟨rfl, hb⟩
  rw [HW8.out] at hb
  have HB0_9 : Hid (Below W0.heap.size W0 W9) := Lib.hid (HB0_8.out.trans ((hb : Below W8.heap.size W8 W9).mono HB0_8.out.size))
  have HB1_9 : Hid (Below W1.heap.size W1 W9) := Lib.hid (HB1_8.out.trans ((hb : Below W8.heap.size W8 W9).mono HB1_8.out.size))
  have HB2_9 : Hid (Below W2.heap.size W2 W9) := Lib.hid (HB2_8.out.trans ((hb : Below W8.heap.size W8 W9).mono HB2_8.out.size))
  have HB3_9 : Hid (Below W3.heap.size W3 W9) := Lib.hid (HB3_8.out.trans ((hb : Below W8.heap.size W8 W9).mono HB3_8.out.size))
  have HB4_9 : Hid (Below W4.heap.size W4 W9) := Lib.hid (HB4_8.out.trans ((hb : Below W8.heap.size W8 W9).mono HB4_8.out.size))
  have HB5_9 : Hid (Below W5.heap.size W5 W9) := Lib.hid (HB5_8.out.trans ((hb : Below W8.heap.size W8 W9).mono HB5_8.out.size))
  have HB6_9 : Hid (Below W6.heap.size W6 W9) := Lib.hid (HB6_8.out.trans ((hb : Below W8.heap.size W8 W9).mono HB6_8.out.size))
  have HB7_9 : Hid (Below W7.heap.size W7 W9) := Lib.hid (HB7_8.out.trans ((hb : Below W8.heap.size W8 W9).mono HB7_8.out.size))
  have HB8_9 : Hid (Below W8.heap.size W8 W9) := Lib.hid (hb)
  clear hb
  obtain ⟨W10, HW10⟩ : ∃ W, Hid ((W9.alloc (.cells #[.int .i64 0, .int .i64 0, .int .i64 0, .int .i64 0, .int .i64 0, .int .i64 0, .int .i64 0, .int .i64 0, .int .i64 0, .int .i64 0, .bool false, .int .i64 0, .int .i64 0] 23)) = W) := ⟨_, Lib.hid rfl⟩
  have HB0_10 : Hid (Below W0.heap.size W0 W10) := Lib.hid (HB0_9.out.trans ((by rw [← HW10.out]; exact (Below.refl _ _).alloc (Nat.le_refl _) _ : Below W9.heap.size W9 W10).mono HB0_9.out.size))
  have HB1_10 : Hid (Below W1.heap.size W1 W10) := Lib.hid (HB1_9.out.trans ((by rw [← HW10.out]; exact (Below.refl _ _).alloc (Nat.le_refl _) _ : Below W9.heap.size W9 W10).mono HB1_9.out.size))
  have HB2_10 : Hid (Below W2.heap.size W2 W10) := Lib.hid (HB2_9.out.trans ((by rw [← HW10.out]; exact (Below.refl _ _).alloc (Nat.le_refl _) _ : Below W9.heap.size W9 W10).mono HB2_9.out.size))
  have HB3_10 : Hid (Below W3.heap.size W3 W10) := Lib.hid (HB3_9.out.trans ((by rw [← HW10.out]; exact (Below.refl _ _).alloc (Nat.le_refl _) _ : Below W9.heap.size W9 W10).mono HB3_9.out.size))
  have HB4_10 : Hid (Below W4.heap.size W4 W10) := Lib.hid (HB4_9.out.trans ((by rw [← HW10.out]; exact (Below.refl _ _).alloc (Nat.le_refl _) _ : Below W9.heap.size W9 W10).mono HB4_9.out.size))
  have HB5_10 : Hid (Below W5.heap.size W5 W10) := Lib.hid (HB5_9.out.trans ((by rw [← HW10.out]; exact (Below.refl _ _).alloc (Nat.le_refl _) _ : Below W9.heap.size W9 W10).mono HB5_9.out.size))
  have HB6_10 : Hid (Below W6.heap.size W6 W10) := Lib.hid (HB6_9.out.trans ((by rw [← HW10.out]; exact (Below.refl _ _).alloc (Nat.le_refl _) _ : Below W9.heap.size W9 W10).mono HB6_9.out.size))
  have HB7_10 : Hid (Below W7.heap.size W7 W10) := Lib.hid (HB7_9.out.trans ((by rw [← HW10.out]; exact (Below.refl _ _).alloc (Nat.le_refl _) _ : Below W9.heap.size W9 W10).mono HB7_9.out.size))
  have HB8_10 : Hid (Below W8.heap.size W8 W10) := Lib.hid (HB8_9.out.trans ((by rw [← HW10.out]; exact (Below.refl _ _).alloc (Nat.le_refl _) _ : Below W9.heap.size W9 W10).mono HB8_9.out.size))
  have HB9_10 : Hid (Below W9.heap.size W9 W10) := Lib.hid (by rw [← HW10.out]; exact (Below.refl _ _).alloc (Nat.le_refl _) _)
  have HX_u : Hid (∀ W, Below W10.heap.size W10 W → W.heap[W9.heap.size]? = some (.cells #[.int .i64 0, .int .i64 0, .int .i64 0, .int .i64 0, .int .i64 0, .int .i64 0, .int .i64 0, .int .i64 0, .int .i64 0, .int .i64 0, .bool false, .int .i64 0, .int .i64 0] 23 (0, 0))) := Lib.hid (fun W hb => (hb.block _ (by rw [← HW10.out]; simp)).trans (by rw [← HW10.out]; exact heap_alloc_new _ _))
  obtain ⟨p0, p1, p2, p3, p4, p5, p6, p7, p8, p9, p10, p11, p12⟩ := cells13 (HX0.out W10 HB0_10.out)
  rw [← HW10.out] at p0 p1 p2 p3 p4 p5 p6 p7 p8 p9 p10 p11 p12
  obtain ⟨b0, b1, b2, b3, b4, b5⟩ := cells6 (HX_b.out W10 HB2_10.out)
  rw [← HW10.out] at b0 b1 b2 b3 b4 b5
  obtain ⟨s0, s1, s2, s3, s4, s5, s6, s7, s8, s9, s10, s11, s12⟩ := cells13 (HX_s.out W10 HB4_10.out)
  rw [← HW10.out] at s0 s1 s2 s3 s4 s5 s6 s7 s8 s9 s10 s11 s12
  obtain ⟨g0, g1, g2, g3, g4, g5, g6, g7, g8⟩ := cells9 (HX_g.out W10 HB6_10.out)
  rw [← HW10.out] at g0 g1 g2 g3 g4 g5 g6 g7 g8
  obtain ⟨t0, t1, t2, t3, t4, t5, t6, t7, t8, t9, t10, t11, t12⟩ := cells13 (HX_t.out W10 HB8_10.out)
  rw [← HW10.out] at t0 t1 t2 t3 t4 t5 t6 t7 t8 t9 t10 t11 t12
  go_wp2_with fail
  refine Calls.mono (right_is 1 7 1 2 2 5 9 0 0 0 false 0 0 HF.out (by rfl : right ⟨1, 7, 1, 2, 2, 5, 9, 0, 0, 0, false, 0, 0⟩ = true) _) ?_
  rintro e11 W11 ⟨rfl, hb⟩
  rw [HW10.out] at hb
  have HB0_11 : Hid (Below W0.heap.size W0 W11) := Lib.hid (HB0_10.out.trans ((hb : Below W10.heap.size W10 W11).mono HB0_10.out.size))
  have HB1_11 : Hid (Below W1.heap.size W1 W11) := Lib.hid (HB1_10.out.trans ((hb : Below W10.heap.size W10 W11).mono HB1_10.out.size))
  have HB2_11 : Hid (Below W2.heap.size W2 W11) := Lib.hid (HB2_10.out.trans ((hb : Below W10.heap.size W10 W11).mono HB2_10.out.size))
  have HB3_11 : Hid (Below W3.heap.size W3 W11) := Lib.hid (HB3_10.out.trans ((hb : Below W10.heap.size W10 W11).mono HB3_10.out.size))
  have HB4_11 : Hid (Below W4.heap.size W4 W11) := Lib.hid (HB4_10.out.trans ((hb : Below W10.heap.size W10 W11).mono HB4_10.out.size))
  have HB5_11 : Hid (Below W5.heap.size W5 W11) := Lib.hid (HB5_10.out.trans ((hb : Below W10.heap.size W10 W11).mono HB5_10.out.size))
  have HB6_11 : Hid (Below W6.heap.size W6 W11) := Lib.hid (HB6_10.out.trans ((hb : Below W10.heap.size W10 W11).mono HB6_10.out.size))
  have HB7_11 : Hid (Below W7.heap.size W7 W11) := Lib.hid (HB7_10.out.trans ((hb : Below W10.heap.size W10 W11).mono HB7_10.out.size))
  have HB8_11 : Hid (Below W8.heap.size W8 W11) := Lib.hid (HB8_10.out.trans ((hb : Below W10.heap.size W10 W11).mono HB8_10.out.size))
  have HB9_11 : Hid (Below W9.heap.size W9 W11) := Lib.hid (HB9_10.out.trans ((hb : Below W10.heap.size W10 W11).mono HB9_10.out.size))
  have HB10_11 : Hid (Below W10.heap.size W10 W11) := Lib.hid (hb)
  clear hb
  clear p0 p1 p2 p3 p4 p5 p6 p7 p8 p9 p10 p11 p12 b0 b1 b2 b3 b4 b5 s0 s1 s2 s3 s4 s5 s6 s7 s8 s9 s10 s11 s12 g0 g1 g2 g3 g4 g5 g6 g7 g8 t0 t1 t2 t3 t4 t5 t6 t7 t8 t9 t10 t11 t12
  go_wp2_with fail
  refine Calls.mono (ofNote_any 4 0 0 0 0 _) ?_
  rintro e12 W12 ⟨rfl, hb⟩
  have HB0_12 : Hid (Below W0.heap.size W0 W12) := Lib.hid (HB0_11.out.trans ((hb : Below W11.heap.size W11 W12).mono HB0_11.out.size))
  have HB1_12 : Hid (Below W1.heap.size W1 W12) := Lib.hid (HB1_11.out.trans ((hb : Below W11.heap.size W11 W12).mono HB1_11.out.size))
  have HB2_12 : Hid (Below W2.heap.size W2 W12) := Lib.hid (HB2_11.out.trans ((hb : Below W11.heap.size W11 W12).mono HB2_11.out.size))
  have HB3_12 : Hid (Below W3.heap.size W3 W12) := Lib.hid (HB3_11.out.trans ((hb : Below W11.heap.size W11 W12).mono HB3_11.out.size))
  have HB4_12 : Hid (Below W4.heap.size W4 W12) := Lib.hid (HB4_11.out.trans ((hb : Below W11.heap.size W11 W12).mono HB4_11.out.size))
  have HB5_12 : Hid (Below W5.heap.size W5 W12) := Lib.hid (HB5_11.out.trans ((hb : Below W11.heap.size W11 W12).mono HB5_11.out.size))
  have HB6_12 : Hid (Below W6.heap.size W6 W12) := Lib.hid (HB6_11.out.trans ((hb : Below W11.heap.size W11 W12).mono HB6_11.out.size))
  have HB7_12 : Hid (Below W7.heap.size W7 W12) := Lib.hid (HB7_11.out.trans ((hb : Below W11.heap.size W11 W12).mono HB7_11.out.size))
  have HB8_12 : Hid (Below W8.heap.size W8 W12) := Lib.hid (HB8_11.out.trans ((hb : Below W11.heap.size W11 W12).mono HB8_11.out.size))
  have HB9_12 : Hid (Below W9.heap.size W9 W12) := Lib.hid (HB9_11.out.trans ((hb : Below W11.heap.size W11 W12).mono HB9_11.out.size))
  have HB10_12 : Hid (Below W10.heap.size W10 W12) := Lib.hid (HB10_11.out.trans ((hb : Below W11.heap.size W11 W12).mono HB10_11.out.size))
  have HB11_12 : Hid (Below W11.heap.size W11 W12) := Lib.hid (hb)
  clear hb
  go_wp2_with fail
  go_ret
  exact ⟨rfl, HBW.out.trans (HB0_12.out.mono HBW.out.size)⟩

end Go.Proofs.Ytbahlgijiglbdaa.rec
