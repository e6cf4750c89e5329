/-
  The fixed answer of layer 7.
-/
import Derived.Test.YtfnapckjccjjjaaOrdImpl
import Derived.Test.YtfnapckjccjjjaaWhole
namespace Go.Proofs.Ytfnapckjccjjjaa.order
open Go.RowKit Go.Proofs.Ytfnapckjccjjjaa
set_option linter.unusedVariables false
set_option linter.unusedSimpArgs false
attribute [local go_sem] undef
set_option maxRecDepth 20000
set_option maxHeartbeats 8000000

theorem awake_any (W0 : World) : Calls Try.prog 8 #[] W0 fun e w' => e = .returned (.bool true) ∧ Below W0.heap.size W0 w' := by
  have HBW : Hid (Below W0.heap.size W0 W0) := Lib.hid (Below.refl _ _)
  have HFO : Hid ((⟨4, 0, 0, 1, 10, 3, 0, 1, 0, 0, 0, false⟩ : Or).fine) := Lib.hid (by simp [Or.fine, frame.inR])
  have HFP1 : Hid ((⟨4, 0, 0, 1, 10, 3, 0, 2, 0, 0, 0, false⟩ : Or).fine) := Lib.hid (by simp [Or.fine, frame.inR])
  have HFP2 : Hid ((⟨4, 0, 0, 1, 10, 3, 4, 2, 0, 0, 0, false⟩ : Or).fine) := Lib.hid (by simp [Or.fine, frame.inR])
  have HFQ : Hid ((⟨4, 0, 0, 1, 10, 3, 4, 2, 12, 2, 1, false⟩ : Or).fine) := Lib.hid (by simp [Or.fine, frame.inR])
  have HFR : Hid ((⟨4, 0, 0, 1, 10, 3, 4, 2, 12, 2, 1, true⟩ : Or).fine) := Lib.hid (by simp [Or.fine, frame.inR])
  have HFR0 : Hid ((⟨1, 4, 0, 0, 1, 10, 3, 0, 0, 0, false, 0, 0⟩ : rec.Rc).fine) := Lib.hid (by simp [rec.Rc.fine, frame.inR])
  go_enter Try.func8, Try.ntmps8
  go_wp2_with fail
  refine Calls.mono (begin_is 1 4 0 0 1 10 3 0 0 0 false 0 0 HFR0.out (by decide +kernel : begin_ ⟨1, 4, 0, 0, 1, 10, 3, 0, 0, 0, false, 0, 0⟩ = (⟨4, 0, 0, 1, 10, 3, 0, 1, 0, 0, 0, false⟩, 0)) _) ?_
  rintro e1 W1 ⟨rfl, hb⟩
  have HB0_1 : Hid (Below W0.heap.size W0 W1) := Lib.hid (hb)
  clear hb
  have LE_o : Hid (W0.heap.size ≤ W1.heap.size) := Lib.hid (HB0_1.out).size
  obtain ⟨W2, HW2⟩ : ∃ W, Hid ((W1.alloc (.cells #[.int .i64 4, .int .i64 0, .int .i64 0, .int .i64 1, .int .i64 10, .int .i64 3, .int .i64 0, .int .i64 1, .int .i64 0, .int .i64 0, .int .i64 0, .bool false] 23)) = W) := ⟨_, Lib.hid rfl⟩
  have HB0_2 : Hid (Below W0.heap.size W0 W2) := Lib.hid (HB0_1.out.trans ((by rw [← HW2.out]; exact (Below.refl _ _).alloc (Nat.le_refl _) _ : Below W1.heap.size W1 W2).mono HB0_1.out.size))
  have HB1_2 : Hid (Below W1.heap.size W1 W2) := Lib.hid (by rw [← HW2.out]; exact (Below.refl _ _).alloc (Nat.le_refl _) _)
  have HX_o : Hid (∀ W, Below W2.heap.size W2 W → W.heap[W1.heap.size]? = some (.cells #[.int .i64 4, .int .i64 0, .int .i64 0, .int .i64 1, .int .i64 10, .int .i64 3, .int .i64 0, .int .i64 1, .int .i64 0, .int .i64 0, .int .i64 0, .bool false] 23 (0, 0))) := Lib.hid (fun W hb => (hb.block _ (by rw [← HW2.out]; simp)).trans (by rw [← HW2.out]; exact heap_alloc_new _ _))
  go_wp2_with fail
  refine Calls.mono (take_is 4 0 0 1 10 3 0 1 0 0 0 false 1 1 4 0 0 HFO.out (by simp [frame.inR]) (by decide +kernel : take ⟨4, 0, 0, 1, 10, 3, 0, 1, 0, 0, 0, false⟩ ⟨1, 1, 4, 0, 0⟩ = (⟨4, 0, 0, 1, 10, 3, 0, 2, 0, 0, 0, false⟩, 0)) _) ?_
  rintro e3 W3 ⟨rfl, hb⟩
  rw [HW2.out] at hb
  have HB0_3 : Hid (Below W0.heap.size W0 W3) := Lib.hid (HB0_2.out.trans ((hb : Below W2.heap.size W2 W3).mono HB0_2.out.size))
  have HB1_3 : Hid (Below W1.heap.size W1 W3) := Lib.hid (HB1_2.out.trans ((hb : Below W2.heap.size W2 W3).mono HB1_2.out.size))
  have HB2_3 : Hid (Below W2.heap.size W2 W3) := Lib.hid (hb)
  clear hb
  have NE_p_o : Hid (W1.heap.size ≠ W3.heap.size) := Lib.hid (Nat.ne_of_lt (Array.getElem?_eq_some_iff.1 (HX_o.out W3 HB2_3.out)).1)
  have LE_p : Hid (W0.heap.size ≤ W3.heap.size) := Lib.hid (HB0_3.out).size
  obtain ⟨W4, HW4⟩ : ∃ W, Hid ((W3.alloc (.cells #[.int .i64 4, .int .i64 0, .int .i64 0, .int .i64 1, .int .i64 10, .int .i64 3, .int .i64 0, .int .i64 2, .int .i64 0, .int .i64 0, .int .i64 0, .bool false] 23)) = W) := ⟨_, Lib.hid rfl⟩
  have HB0_4 : Hid (Below W0.heap.size W0 W4) := Lib.hid (HB0_3.out.trans ((by rw [← HW4.out]; exact (Below.refl _ _).alloc (Nat.le_refl _) _ : Below W3.heap.size W3 W4).mono HB0_3.out.size))
  have HB1_4 : Hid (Below W1.heap.size W1 W4) := Lib.hid (HB1_3.out.trans ((by rw [← HW4.out]; exact (Below.refl _ _).alloc (Nat.le_refl _) _ : Below W3.heap.size W3 W4).mono HB1_3.out.size))
  have HB2_4 : Hid (Below W2.heap.size W2 W4) := Lib.hid (HB2_3.out.trans ((by rw [← HW4.out]; exact (Below.refl _ _).alloc (Nat.le_refl _) _ : Below W3.heap.size W3 W4).mono HB2_3.out.size))
  have HB3_4 : Hid (Below W3.heap.size W3 W4) := Lib.hid (by rw [← HW4.out]; exact (Below.refl _ _).alloc (Nat.le_refl _) _)
  have HX_p : Hid (∀ W, Below W4.heap.size W4 W → W.heap[W3.heap.size]? = some (.cells #[.int .i64 4, .int .i64 0, .int .i64 0, .int .i64 1, .int .i64 10, .int .i64 3, .int .i64 0, .int .i64 2, .int .i64 0, .int .i64 0, .int .i64 0, .bool false] 23 (0, 0))) := Lib.hid (fun W hb => (hb.block _ (by rw [← HW4.out]; simp)).trans (by rw [← HW4.out]; exact heap_alloc_new _ _))
  go_wp2_with fail
  refine Calls.mono (take_is 4 0 0 1 10 3 0 2 0 0 0 false 2 3 4 4 0 HFP1.out (by simp [frame.inR]) (by decide +kernel : take ⟨4, 0, 0, 1, 10, 3, 0, 2, 0, 0, 0, false⟩ ⟨2, 3, 4, 4, 0⟩ = (⟨4, 0, 0, 1, 10, 3, 4, 2, 0, 0, 0, false⟩, 0)) _) ?_
  rintro e5 W5 ⟨rfl, hb⟩
  rw [HW4.out] at hb
  have HB0_5 : Hid (Below W0.heap.size W0 W5) := Lib.hid (HB0_4.out.trans ((hb : Below W4.heap.size W4 W5).mono HB0_4.out.size))
  have HB1_5 : Hid (Below W1.heap.size W1 W5) := Lib.hid (HB1_4.out.trans ((hb : Below W4.heap.size W4 W5).mono HB1_4.out.size))
  have HB2_5 : Hid (Below W2.heap.size W2 W5) := Lib.hid (HB2_4.out.trans ((hb : Below W4.heap.size W4 W5).mono HB2_4.out.size))
  have HB3_5 : Hid (Below W3.heap.size W3 W5) := Lib.hid (HB3_4.out.trans ((hb : Below W4.heap.size W4 W5).mono HB3_4.out.size))
  have HB4_5 : Hid (Below W4.heap.size W4 W5) := Lib.hid (hb)
  clear hb
  have hwh : World.whole W5 (W3.heap.size) 12 23 := whole_of (HX_p.out W5 HB4_5.out) rfl
  go_wp2_with (refine wpList_store_whole 23 (.tmp 3) (.tmp 29) (W3.heap.size) 12 _ 23 (by rfl) (by rfl) hwh (by rfl) (by kernel_rfl) (by kernel_rfl) ?_; obtain ⟨W6, HW6⟩ : ∃ W, Hid (World.setAll W5 (W3.heap.size) #[.int .i64 4, .int .i64 0, .int .i64 0, .int .i64 1, .int .i64 10, .int .i64 3, .int .i64 4, .int .i64 2, .int .i64 0, .int .i64 0, .int .i64 0, .bool false] = W) := ⟨_, Lib.hid rfl⟩; rw [HW6.out]; have HB0_6 : Hid (Below W0.heap.size W0 W6) := Lib.hid (by rw [← HW6.out]; exact setAll_below HB0_5.out LE_p.out); have HX6_o : Hid (∀ W, Below W6.heap.size W6 W → W.heap[W1.heap.size]? = some (.cells #[.int .i64 4, .int .i64 0, .int .i64 0, .int .i64 1, .int .i64 10, .int .i64 3, .int .i64 0, .int .i64 1, .int .i64 0, .int .i64 0, .int .i64 0, .bool false] 23 (0, 0))) := Lib.hid (fun W hb => (hb.block _ (by rw [← HW6.out, setAll_size]; exact (Array.getElem?_eq_some_iff.1 (HX_o.out W5 HB2_5.out)).1)).trans (by rw [← HW6.out]; exact (setAll_other NE_p_o.out).trans (HX_o.out W5 HB2_5.out))); have HX6_p : Hid (∀ W, Below W6.heap.size W6 W → W.heap[W3.heap.size]? = some (.cells #[.int .i64 4, .int .i64 0, .int .i64 0, .int .i64 1, .int .i64 10, .int .i64 3, .int .i64 4, .int .i64 2, .int .i64 0, .int .i64 0, .int .i64 0, .bool false] 23 (0, 0))) := Lib.hid (fun W hb => (hb.block _ (by rw [← HW6.out, setAll_size]; exact (Array.getElem?_eq_some_iff.1 (HX_p.out W5 HB4_5.out)).1)).trans (by rw [← HW6.out]; exact setAll_self hwh rfl)); obtain ⟨p_0, p_1, p_2, p_3, p_4, p_5, p_6, p_7, p_8, p_9, p_10, p_11⟩ := cells12 (HX6_p.out W6 (Below.refl _ _)))
  refine Calls.mono (change_is 4 0 0 1 10 3 4 2 0 0 0 false 12 2 HFP2.out ⟨by simp [frame.inR], by simp [frame.inR]⟩ (by decide +kernel : change ⟨4, 0, 0, 1, 10, 3, 4, 2, 0, 0, 0, false⟩ 12 2 = (⟨4, 0, 0, 1, 10, 3, 4, 2, 12, 2, 1, false⟩, 0)) _) ?_
  rintro e7 W7 ⟨rfl, hb⟩
  have HB0_7 : Hid (Below W0.heap.size W0 W7) := Lib.hid (HB0_6.out.trans ((hb : Below W6.heap.size W6 W7).mono HB0_6.out.size))
  have HB6_7 : Hid (Below W6.heap.size W6 W7) := Lib.hid (hb)
  clear hb
  clear p_0 p_1 p_2 p_3 p_4 p_5 p_6 p_7 p_8 p_9 p_10 p_11
  have NE_q_o : Hid (W1.heap.size ≠ W7.heap.size) := Lib.hid (Nat.ne_of_lt (Array.getElem?_eq_some_iff.1 (HX6_o.out W7 HB6_7.out)).1)
  have NE_q_p : Hid (W3.heap.size ≠ W7.heap.size) := Lib.hid (Nat.ne_of_lt (Array.getElem?_eq_some_iff.1 (HX6_p.out W7 HB6_7.out)).1)
  have LE_q : Hid (W0.heap.size ≤ W7.heap.size) := Lib.hid (HB0_7.out).size
  obtain ⟨W8, HW8⟩ : ∃ W, Hid ((W7.alloc (.cells #[.int .i64 4, .int .i64 0, .int .i64 0, .int .i64 1, .int .i64 10, .int .i64 3, .int .i64 4, .int .i64 2, .int .i64 12, .int .i64 2, .int .i64 1, .bool false] 23)) = W) := ⟨_, Lib.hid rfl⟩
  have HB0_8 : Hid (Below W0.heap.size W0 W8) := Lib.hid (HB0_7.out.trans ((by rw [← HW8.out]; exact (Below.refl _ _).alloc (Nat.le_refl _) _ : Below W7.heap.size W7 W8).mono HB0_7.out.size))
  have HB6_8 : Hid (Below W6.heap.size W6 W8) := Lib.hid (HB6_7.out.trans ((by rw [← HW8.out]; exact (Below.refl _ _).alloc (Nat.le_refl _) _ : Below W7.heap.size W7 W8).mono HB6_7.out.size))
  have HB7_8 : Hid (Below W7.heap.size W7 W8) := Lib.hid (by rw [← HW8.out]; exact (Below.refl _ _).alloc (Nat.le_refl _) _)
  have HX_q : Hid (∀ W, Below W8.heap.size W8 W → W.heap[W7.heap.size]? = some (.cells #[.int .i64 4, .int .i64 0, .int .i64 0, .int .i64 1, .int .i64 10, .int .i64 3, .int .i64 4, .int .i64 2, .int .i64 12, .int .i64 2, .int .i64 1, .bool false] 23 (0, 0))) := Lib.hid (fun W hb => (hb.block _ (by rw [← HW8.out]; simp)).trans (by rw [← HW8.out]; exact heap_alloc_new _ _))
  go_wp2_with fail
  refine Calls.mono (worth_is 4 0 0 1 10 3 4 2 12 2 1 false HFQ.out (by decide +kernel : worth ⟨4, 0, 0, 1, 10, 3, 4, 2, 12, 2, 1, false⟩ = (18, 0)) _) ?_
  rintro e9 W9 ⟨rfl, hb⟩
  rw [HW8.out] at hb
  have HB0_9 : Hid (Below W0.heap.size W0 W9) := Lib.hid (HB0_8.out.trans ((hb : Below W8.heap.size W8 W9).mono HB0_8.out.size))
  have HB6_9 : Hid (Below W6.heap.size W6 W9) := Lib.hid (HB6_8.out.trans ((hb : Below W8.heap.size W8 W9).mono HB6_8.out.size))
  have HB7_9 : Hid (Below W7.heap.size W7 W9) := Lib.hid (HB7_8.out.trans ((hb : Below W8.heap.size W8 W9).mono HB7_8.out.size))
  have HB8_9 : Hid (Below W8.heap.size W8 W9) := Lib.hid (hb)
  clear hb
  obtain ⟨o_0, o_1, o_2, o_3, o_4, o_5, o_6, o_7, o_8, o_9, o_10, o_11⟩ := cells12 (HX6_o.out W9 HB6_9.out)
  go_wp2_with fail
  refine Calls.mono (take_is 4 0 0 1 10 3 0 1 0 0 0 false 2 4 4 0 0 HFO.out (by simp [frame.inR]) (by decide +kernel : take ⟨4, 0, 0, 1, 10, 3, 0, 1, 0, 0, 0, false⟩ ⟨2, 4, 4, 0, 0⟩ = (⟨4, 0, 0, 1, 10, 3, 0, 1, 0, 0, 0, false⟩, 8)) _) ?_
  rintro e10 W10 ⟨rfl, hb⟩
  have HB0_10 : Hid (Below W0.heap.size W0 W10) := Lib.hid (HB0_9.out.trans ((hb : Below W9.heap.size W9 W10).mono HB0_9.out.size))
  have HB6_10 : Hid (Below W6.heap.size W6 W10) := Lib.hid (HB6_9.out.trans ((hb : Below W9.heap.size W9 W10).mono HB6_9.out.size))
  have HB7_10 : Hid (Below W7.heap.size W7 W10) := Lib.hid (HB7_9.out.trans ((hb : Below W9.heap.size W9 W10).mono HB7_9.out.size))
  have HB8_10 : Hid (Below W8.heap.size W8 W10) := Lib.hid (HB8_9.out.trans ((hb : Below W9.heap.size W9 W10).mono HB8_9.out.size))
  have HB9_10 : Hid (Below W9.heap.size W9 W10) := Lib.hid (hb)
  clear hb
  clear o_0 o_1 o_2 o_3 o_4 o_5 o_6 o_7 o_8 o_9 o_10 o_11
  have NE_s_o : Hid (W1.heap.size ≠ W10.heap.size) := Lib.hid (Nat.ne_of_lt (Array.getElem?_eq_some_iff.1 (HX6_o.out W10 HB6_10.out)).1)
  have NE_s_p : Hid (W3.heap.size ≠ W10.heap.size) := Lib.hid (Nat.ne_of_lt (Array.getElem?_eq_some_iff.1 (HX6_p.out W10 HB6_10.out)).1)
  have NE_s_q : Hid (W7.heap.size ≠ W10.heap.size) := Lib.hid (Nat.ne_of_lt (Array.getElem?_eq_some_iff.1 (HX_q.out W10 HB8_10.out)).1)
  have LE_s : Hid (W0.heap.size ≤ W10.heap.size) := Lib.hid (HB0_10.out).size
  obtain ⟨W11, HW11⟩ : ∃ W, Hid ((W10.alloc (.cells #[.int .i64 4, .int .i64 0, .int .i64 0, .int .i64 1, .int .i64 10, .int .i64 3, .int .i64 0, .int .i64 1, .int .i64 0, .int .i64 0, .int .i64 0, .bool false] 23)) = W) := ⟨_, Lib.hid rfl⟩
  have HB0_11 : Hid (Below W0.heap.size W0 W11) := Lib.hid (HB0_10.out.trans ((by rw [← HW11.out]; exact (Below.refl _ _).alloc (Nat.le_refl _) _ : Below W10.heap.size W10 W11).mono HB0_10.out.size))
  have HB6_11 : Hid (Below W6.heap.size W6 W11) := Lib.hid (HB6_10.out.trans ((by rw [← HW11.out]; exact (Below.refl _ _).alloc (Nat.le_refl _) _ : Below W10.heap.size W10 W11).mono HB6_10.out.size))
  have HB7_11 : Hid (Below W7.heap.size W7 W11) := Lib.hid (HB7_10.out.trans ((by rw [← HW11.out]; exact (Below.refl _ _).alloc (Nat.le_refl _) _ : Below W10.heap.size W10 W11).mono HB7_10.out.size))
  have HB8_11 : Hid (Below W8.heap.size W8 W11) := Lib.hid (HB8_10.out.trans ((by rw [← HW11.out]; exact (Below.refl _ _).alloc (Nat.le_refl _) _ : Below W10.heap.size W10 W11).mono HB8_10.out.size))
  have HB9_11 : Hid (Below W9.heap.size W9 W11) := Lib.hid (HB9_10.out.trans ((by rw [← HW11.out]; exact (Below.refl _ _).alloc (Nat.le_refl _) _ : Below W10.heap.size W10 W11).mono HB9_10.out.size))
  have HB10_11 : Hid (Below W10.heap.size W10 W11) := Lib.hid (by rw [← HW11.out]; exact (Below.refl _ _).alloc (Nat.le_refl _) _)
  have HX_s : Hid (∀ W, Below W11.heap.size W11 W → W.heap[W10.heap.size]? = some (.cells #[.int .i64 4, .int .i64 0, .int .i64 0, .int .i64 1, .int .i64 10, .int .i64 3, .int .i64 0, .int .i64 1, .int .i64 0, .int .i64 0, .int .i64 0, .bool false] 23 (0, 0))) := Lib.hid (fun W hb => (hb.block _ (by rw [← HW11.out]; simp)).trans (by rw [← HW11.out]; exact heap_alloc_new _ _))
  obtain ⟨q_0, q_1, q_2, q_3, q_4, q_5, q_6, q_7, q_8, q_9, q_10, q_11⟩ := cells12 (HX_q.out W11 HB8_11.out)
  rw [← HW11.out] at q_0 q_1 q_2 q_3 q_4 q_5 q_6 q_7 q_8 q_9 q_10 q_11
  go_wp2_with fail
  refine Calls.mono (stop_is 4 0 0 1 10 3 4 2 12 2 1 false HFQ.out (by decide +kernel : stop ⟨4, 0, 0, 1, 10, 3, 4, 2, 12, 2, 1, false⟩ = (⟨4, 0, 0, 1, 10, 3, 4, 2, 12, 2, 1, true⟩, 0)) _) ?_
  rintro e12 W12 ⟨rfl, hb⟩
  rw [HW11.out] at hb
  have HB0_12 : Hid (Below W0.heap.size W0 W12) := Lib.hid (HB0_11.out.trans ((hb : Below W11.heap.size W11 W12).mono HB0_11.out.size))
  have HB6_12 : Hid (Below W6.heap.size W6 W12) := Lib.hid (HB6_11.out.trans ((hb : Below W11.heap.size W11 W12).mono HB6_11.out.size))
  have HB7_12 : Hid (Below W7.heap.size W7 W12) := Lib.hid (HB7_11.out.trans ((hb : Below W11.heap.size W11 W12).mono HB7_11.out.size))
  have HB8_12 : Hid (Below W8.heap.size W8 W12) := Lib.hid (HB8_11.out.trans ((hb : Below W11.heap.size W11 W12).mono HB8_11.out.size))
  have HB9_12 : Hid (Below W9.heap.size W9 W12) := Lib.hid (HB9_11.out.trans ((hb : Below W11.heap.size W11 W12).mono HB9_11.out.size))
  have HB10_12 : Hid (Below W10.heap.size W10 W12) := Lib.hid (HB10_11.out.trans ((hb : Below W11.heap.size W11 W12).mono HB10_11.out.size))
  have HB11_12 : Hid (Below W11.heap.size W11 W12) := Lib.hid (hb)
  clear hb
  clear q_0 q_1 q_2 q_3 q_4 q_5 q_6 q_7 q_8 q_9 q_10 q_11
  have NE_r_o : Hid (W1.heap.size ≠ W12.heap.size) := Lib.hid (Nat.ne_of_lt (Array.getElem?_eq_some_iff.1 (HX6_o.out W12 HB6_12.out)).1)
  have NE_r_p : Hid (W3.heap.size ≠ W12.heap.size) := Lib.hid (Nat.ne_of_lt (Array.getElem?_eq_some_iff.1 (HX6_p.out W12 HB6_12.out)).1)
  have NE_r_q : Hid (W7.heap.size ≠ W12.heap.size) := Lib.hid (Nat.ne_of_lt (Array.getElem?_eq_some_iff.1 (HX_q.out W12 HB8_12.out)).1)
  have NE_r_s : Hid (W10.heap.size ≠ W12.heap.size) := Lib.hid (Nat.ne_of_lt (Array.getElem?_eq_some_iff.1 (HX_s.out W12 HB11_12.out)).1)
  have LE_r : Hid (W0.heap.size ≤ W12.heap.size) := Lib.hid (HB0_12.out).size
  obtain ⟨W13, HW13⟩ : ∃ W, Hid ((W12.alloc (.cells #[.int .i64 4, .int .i64 0, .int .i64 0, .int .i64 1, .int .i64 10, .int .i64 3, .int .i64 4, .int .i64 2, .int .i64 12, .int .i64 2, .int .i64 1, .bool true] 23)) = W) := ⟨_, Lib.hid rfl⟩
  have HB0_13 : Hid (Below W0.heap.size W0 W13) := Lib.hid (HB0_12.out.trans ((by rw [← HW13.out]; exact (Below.refl _ _).alloc (Nat.le_refl _) _ : Below W12.heap.size W12 W13).mono HB0_12.out.size))
  have HB6_13 : Hid (Below W6.heap.size W6 W13) := Lib.hid (HB6_12.out.trans ((by rw [← HW13.out]; exact (Below.refl _ _).alloc (Nat.le_refl _) _ : Below W12.heap.size W12 W13).mono HB6_12.out.size))
  have HB7_13 : Hid (Below W7.heap.size W7 W13) := Lib.hid (HB7_12.out.trans ((by rw [← HW13.out]; exact (Below.refl _ _).alloc (Nat.le_refl _) _ : Below W12.heap.size W12 W13).mono HB7_12.out.size))
  have HB8_13 : Hid (Below W8.heap.size W8 W13) := Lib.hid (HB8_12.out.trans ((by rw [← HW13.out]; exact (Below.refl _ _).alloc (Nat.le_refl _) _ : Below W12.heap.size W12 W13).mono HB8_12.out.size))
  have HB9_13 : Hid (Below W9.heap.size W9 W13) := Lib.hid (HB9_12.out.trans ((by rw [← HW13.out]; exact (Below.refl _ _).alloc (Nat.le_refl _) _ : Below W12.heap.size W12 W13).mono HB9_12.out.size))
  have HB10_13 : Hid (Below W10.heap.size W10 W13) := Lib.hid (HB10_12.out.trans ((by rw [← HW13.out]; exact (Below.refl _ _).alloc (Nat.le_refl _) _ : Below W12.heap.size W12 W13).mono HB10_12.out.size))
  have HB11_13 : Hid (Below W11.heap.size W11 W13) := Lib.hid (HB11_12.out.trans ((by rw [← HW13.out]; exact (Below.refl _ _).alloc (Nat.le_refl _) _ : Below W12.heap.size W12 W13).mono HB11_12.out.size))
  have HB12_13 : Hid (Below W12.heap.size W12 W13) := Lib.hid (by rw [← HW13.out]; exact (Below.refl _ _).alloc (Nat.le_refl _) _)
  have HX_r : Hid (∀ W, Below W13.heap.size W13 W → W.heap[W12.heap.size]? = some (.cells #[.int .i64 4, .int .i64 0, .int .i64 0, .int .i64 1, .int .i64 10, .int .i64 3, .int .i64 4, .int .i64 2, .int .i64 12, .int .i64 2, .int .i64 1, .bool true] 23 (0, 0))) := Lib.hid (fun W hb => (hb.block _ (by rw [← HW13.out]; simp)).trans (by rw [← HW13.out]; exact heap_alloc_new _ _))
  obtain ⟨p_0, p_1, p_2, p_3, p_4, p_5, p_6, p_7, p_8, p_9, p_10, p_11⟩ := cells12 (HX6_p.out W13 HB6_13.out)
  rw [← HW13.out] at p_0 p_1 p_2 p_3 p_4 p_5 p_6 p_7 p_8 p_9 p_10 p_11
  go_wp2_with fail
  refine Calls.mono (open_is 4 0 0 1 10 3 4 2 0 0 0 false HFP2.out (by decide +kernel : open_ ⟨4, 0, 0, 1, 10, 3, 4, 2, 0, 0, 0, false⟩ = 6) _) ?_
  rintro e14 W14 ⟨rfl, hb⟩
  rw [HW13.out] at hb
  have HB0_14 : Hid (Below W0.heap.size W0 W14) := Lib.hid (HB0_13.out.trans ((hb : Below W13.heap.size W13 W14).mono HB0_13.out.size))
  have HB6_14 : Hid (Below W6.heap.size W6 W14) := Lib.hid (HB6_13.out.trans ((hb : Below W13.heap.size W13 W14).mono HB6_13.out.size))
  have HB7_14 : Hid (Below W7.heap.size W7 W14) := Lib.hid (HB7_13.out.trans ((hb : Below W13.heap.size W13 W14).mono HB7_13.out.size))
  have HB8_14 : Hid (Below W8.heap.size W8 W14) := Lib.hid (HB8_13.out.trans ((hb : Below W13.heap.size W13 W14).mono HB8_13.out.size))
  have HB9_14 : Hid (Below W9.heap.size W9 W14) := Lib.hid (HB9_13.out.trans ((hb : Below W13.heap.size W13 W14).mono HB9_13.out.size))
  have HB10_14 : Hid (Below W10.heap.size W10 W14) := Lib.hid (HB10_13.out.trans ((hb : Below W13.heap.size W13 W14).mono HB10_13.out.size))
  have HB11_14 : Hid (Below W11.heap.size W11 W14) := Lib.hid (HB11_13.out.trans ((hb : Below W13.heap.size W13 W14).mono HB11_13.out.size))
  have HB12_14 : Hid (Below W12.heap.size W12 W14) := Lib.hid (HB12_13.out.trans ((hb : Below W13.heap.size W13 W14).mono HB12_13.out.size))
  have HB13_14 : Hid (Below W13.heap.size W13 W14) := Lib.hid (hb)
  clear hb
  clear p_0 p_1 p_2 p_3 p_4 p_5 p_6 p_7 p_8 p_9 p_10 p_11
  obtain ⟨q_0, q_1, q_2, q_3, q_4, q_5, q_6, q_7, q_8, q_9, q_10, q_11⟩ := cells12 (HX_q.out W14 HB8_14.out)
  go_wp2_with fail
  refine Calls.mono (open_is 4 0 0 1 10 3 4 2 12 2 1 false HFQ.out (by decide +kernel : open_ ⟨4, 0, 0, 1, 10, 3, 4, 2, 12, 2, 1, false⟩ = 8) _) ?_
  rintro e15 W15 ⟨rfl, hb⟩
  have HB0_15 : Hid (Below W0.heap.size W0 W15) := Lib.hid (HB0_14.out.trans ((hb : Below W14.heap.size W14 W15).mono HB0_14.out.size))
  have HB6_15 : Hid (Below W6.heap.size W6 W15) := Lib.hid (HB6_14.out.trans ((hb : Below W14.heap.size W14 W15).mono HB6_14.out.size))
  have HB7_15 : Hid (Below W7.heap.size W7 W15) := Lib.hid (HB7_14.out.trans ((hb : Below W14.heap.size W14 W15).mono HB7_14.out.size))
  have HB8_15 : Hid (Below W8.heap.size W8 W15) := Lib.hid (HB8_14.out.trans ((hb : Below W14.heap.size W14 W15).mono HB8_14.out.size))
  have HB9_15 : Hid (Below W9.heap.size W9 W15) := Lib.hid (HB9_14.out.trans ((hb : Below W14.heap.size W14 W15).mono HB9_14.out.size))
  have HB10_15 : Hid (Below W10.heap.size W10 W15) := Lib.hid (HB10_14.out.trans ((hb : Below W14.heap.size W14 W15).mono HB10_14.out.size))
  have HB11_15 : Hid (Below W11.heap.size W11 W15) := Lib.hid (HB11_14.out.trans ((hb : Below W14.heap.size W14 W15).mono HB11_14.out.size))
  have HB12_15 : Hid (Below W12.heap.size W12 W15) := Lib.hid (HB12_14.out.trans ((hb : Below W14.heap.size W14 W15).mono HB12_14.out.size))
  have HB13_15 : Hid (Below W13.heap.size W13 W15) := Lib.hid (HB13_14.out.trans ((hb : Below W14.heap.size W14 W15).mono HB13_14.out.size))
  have HB14_15 : Hid (Below W14.heap.size W14 W15) := Lib.hid (hb)
  clear hb
  clear q_0 q_1 q_2 q_3 q_4 q_5 q_6 q_7 q_8 q_9 q_10 q_11
  obtain ⟨r_0, r_1, r_2, r_3, r_4, r_5, r_6, r_7, r_8, r_9, r_10, r_11⟩ := cells12 (HX_r.out W15 HB13_15.out)
  obtain ⟨q_0, q_1, q_2, q_3, q_4, q_5, q_6, q_7, q_8, q_9, q_10, q_11⟩ := cells12 (HX_q.out W15 HB8_15.out)
  go_wp2_with fail
  refine Calls.mono (right_is 4 0 0 1 10 3 4 2 12 2 1 true HFR.out (by decide +kernel : right ⟨4, 0, 0, 1, 10, 3, 4, 2, 12, 2, 1, true⟩ = true) _) ?_
  rintro e16 W16 ⟨rfl, hb⟩
  have HB0_16 : Hid (Below W0.heap.size W0 W16) := Lib.hid (HB0_15.out.trans ((hb : Below W15.heap.size W15 W16).mono HB0_15.out.size))
  have HB6_16 : Hid (Below W6.heap.size W6 W16) := Lib.hid (HB6_15.out.trans ((hb : Below W15.heap.size W15 W16).mono HB6_15.out.size))
  have HB7_16 : Hid (Below W7.heap.size W7 W16) := Lib.hid (HB7_15.out.trans ((hb : Below W15.heap.size W15 W16).mono HB7_15.out.size))
  have HB8_16 : Hid (Below W8.heap.size W8 W16) := Lib.hid (HB8_15.out.trans ((hb : Below W15.heap.size W15 W16).mono HB8_15.out.size))
  have HB9_16 : Hid (Below W9.heap.size W9 W16) := Lib.hid (HB9_15.out.trans ((hb : Below W15.heap.size W15 W16).mono HB9_15.out.size))
  have HB10_16 : Hid (Below W10.heap.size W10 W16) := Lib.hid (HB10_15.out.trans ((hb : Below W15.heap.size W15 W16).mono HB10_15.out.size))
  have HB11_16 : Hid (Below W11.heap.size W11 W16) := Lib.hid (HB11_15.out.trans ((hb : Below W15.heap.size W15 W16).mono HB11_15.out.size))
  have HB12_16 : Hid (Below W12.heap.size W12 W16) := Lib.hid (HB12_15.out.trans ((hb : Below W15.heap.size W15 W16).mono HB12_15.out.size))
  have HB13_16 : Hid (Below W13.heap.size W13 W16) := Lib.hid (HB13_15.out.trans ((hb : Below W15.heap.size W15 W16).mono HB13_15.out.size))
  have HB14_16 : Hid (Below W14.heap.size W14 W16) := Lib.hid (HB14_15.out.trans ((hb : Below W15.heap.size W15 W16).mono HB14_15.out.size))
  have HB15_16 : Hid (Below W15.heap.size W15 W16) := Lib.hid (hb)
  clear hb
  clear r_0 r_1 r_2 r_3 r_4 r_5 r_6 r_7 r_8 r_9 r_10 r_11 q_0 q_1 q_2 q_3 q_4 q_5 q_6 q_7 q_8 q_9 q_10 q_11
  obtain ⟨o_0, o_1, o_2, o_3, o_4, o_5, o_6, o_7, o_8, o_9, o_10, o_11⟩ := cells12 (HX6_o.out W16 HB6_16.out)
  go_wp2_with fail
  go_ret
  exact ⟨rfl, HB0_16.out⟩

end Go.Proofs.Ytfnapckjccjjjaa.order
