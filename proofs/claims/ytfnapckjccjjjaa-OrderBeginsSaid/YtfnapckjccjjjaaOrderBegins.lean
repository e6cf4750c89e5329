/-
  PROVED: the law OrderBegins answers true at every input, and leaves what it was given as it was.
  CONDITIONS: none.
-/
import Derived.Test.YtfnapckjccjjjaaRows
import Derived.WalkKit
import Derived.ProofKit
import Derived.OpenShut
import Derived.ShutString
import Derived.ChangeOld
import Derived.Below
import Derived.Deep.RegionHeld
import Derived.Deep.DrawnRows
import Derived.Deep.DeepCutAuto
import Derived.Test.YtfnapckjccjjjaaRecImpl5
import Derived.Test.YtfnapckjccjjjaaAwake07
import Derived.Test.YtfnapckjccjjjaaOrdEq
namespace Go.Proofs.Ytfnapckjccjjjaa.orderBegins
open Go.ChangeShapes Go.WideShapes Go.ChangeAt Go.RowKit
open Go.ChangeMaps (open_string shut_string)
open Go.Proofs.Ytfnapckjccjjjaa Go.Proofs.Ytfnapckjccjjjaa.order
open Go.Proofs.Ytfnapckjccjjjaa.rec (cells13)
attribute [local go_sem] undef
attribute [local go_sem ↓] Go.wp_at_zero Go.wp_at_succ
set_option linter.unusedVariables false

theorem own : ownKnob Try.prog.godebug = none := by kernel_rfl
theorem laidOut : laidOutB Try.prog = true := by kernel_rfl

set_option maxHeartbeats 8000000 in
set_option maxRecDepth 100000 in
theorem walk (cs0 : Array Value) (x0 : RecD) (w : World) (w0 : rdRec w (Lt w.heap.size) cs0.toList x0) :
    Calls Try.prog 7 #[.agg cs0] w fun e w' => e = .returned (.bool true) ∧ Below w.heap.size w w' := by
  -- WALK BEGINS
  obtain ⟨hc0, hf0⟩ := w0
  obtain rfl : cs0 = rec.rc x0 := by apply Array.toList_inj.1; exact hc0
  clear hc0
  obtain ⟨k, o, a, y, d, q, p, l, s, n, on, z, t⟩ := x0
  show Calls Try.prog 7 #[.agg #[.int .i64 k, .int .i64 o, .int .i64 a, .int .i64 y, .int .i64 d, .int .i64 q, .int .i64 p, .int .i64 l, .int .i64 s, .int .i64 n, .bool on, .int .i64 z, .int .i64 t]] w _
  obtain ⟨W0, HW0⟩ : ∃ W, Hid ((w.alloc (.cells #[.int .i64 k, .int .i64 o, .int .i64 a, .int .i64 y, .int .i64 d, .int .i64 q, .int .i64 p, .int .i64 l, .int .i64 s, .int .i64 n, .bool on, .int .i64 z, .int .i64 t] 25)) = W) := ⟨_, Lib.hid rfl⟩
  have HBW : Hid (Below w.heap.size w W0) := Lib.hid (by rw [← HW0.out]; exact (Below.refl _ _).alloc (by simp) _)
  have HX0 : Hid (∀ W, Below W0.heap.size W0 W → W.heap[w.heap.size]? = some (.cells #[.int .i64 k, .int .i64 o, .int .i64 a, .int .i64 y, .int .i64 d, .int .i64 q, .int .i64 p, .int .i64 l, .int .i64 s, .int .i64 n, .bool on, .int .i64 z, .int .i64 t] 25 (0, 0))) := Lib.hid (fun W hb => (hb.block _ (by rw [← HW0.out]; simp; try omega)).trans (by rw [← HW0.out]; have := heap_alloc_new w (.cells #[.int .i64 k, .int .i64 o, .int .i64 a, .int .i64 y, .int .i64 d, .int .i64 q, .int .i64 p, .int .i64 l, .int .i64 s, .int .i64 n, .bool on, .int .i64 z, .int .i64 t] 25); exact this))
  have HF := Lib.hid hf0
  obtain ⟨⟨i', a', y', d', q', p', f', ph', m', r', v', g'⟩, hb0⟩ : ∃ x, (begin_ ⟨k, o, a, y, d, q, p, l, s, n, on, z, t⟩).1 = x := ⟨_, rfl⟩
  obtain ⟨ee, he0⟩ : ∃ x, (begin_ ⟨k, o, a, y, d, q, p, l, s, n, on, z, t⟩).2 = x := ⟨_, rfl⟩
  have hbeg : begin_ ⟨k, o, a, y, d, q, p, l, s, n, on, z, t⟩ = (⟨i', a', y', d', q', p', f', ph', m', r', v', g'⟩, ee) := Prod.ext hb0 he0
  have HFO : Hid ((⟨i', a', y', d', q', p', f', ph', m', r', v', g'⟩ : Or).fine) := Lib.hid (by have := begin_fine hf0; rw [hb0] at this; exact this)
  have HBG := Lib.hid hbeg
  have HER : Hid (ee = 0 ∨ ee = 1 ∧ (⟨i', a', y', d', q', p', f', ph', m', r', v', g'⟩ : Or) = oz ∧ (k ≠ 1 ∨ rec.right ⟨k, o, a, y, d, q, p, l, s, n, on, z, t⟩ = false)) := Lib.hid (begin_err hbeg)
  clear hf0 hb0 he0 hbeg
  go_enter Try.func7, Try.ntmps7
  go_wp2_with fail
  refine Calls.mono (order.awake_any _) ?_
  rintro e1 W1 ⟨rfl, hb⟩
  rw [HW0.out] at hb
  have HB0_1 : Hid (Below W0.heap.size W0 W1) := Lib.hid (hb)
  clear hb
  obtain ⟨k_0, k_1, k_2, k_3, k_4, k_5, k_6, k_7, k_8, k_9, k_10, k_11, k_12⟩ := cells13 (HX0.out W1 HB0_1.out)
  go_wp2_with fail
  refine Calls.mono (order.begin_is k o a y d q p l s n on z t HF.out HBG.out _) ?_
  rintro e2 W2 ⟨rfl, hb⟩
  have HB0_2 : Hid (Below W0.heap.size W0 W2) := Lib.hid (HB0_1.out.trans ((hb : Below W1.heap.size W1 W2).mono HB0_1.out.size))
  have HB1_2 : Hid (Below W1.heap.size W1 W2) := Lib.hid (hb)
  clear hb
  clear k_0 k_1 k_2 k_3 k_4 k_5 k_6 k_7 k_8 k_9 k_10 k_11 k_12
  obtain ⟨W3, HW3⟩ : ∃ W, Hid ((W2.alloc (.cells #[.int .i64 i', .int .i64 a', .int .i64 y', .int .i64 d', .int .i64 q', .int .i64 p', .int .i64 f', .int .i64 ph', .int .i64 m', .int .i64 r', .int .i64 v', .bool g'] 23)) = W) := ⟨_, Lib.hid rfl⟩
  have HB0_3 : Hid (Below W0.heap.size W0 W3) := Lib.hid (HB0_2.out.trans ((by rw [← HW3.out]; exact (Below.refl _ _).alloc (Nat.le_refl _) _ : Below W2.heap.size W2 W3).mono HB0_2.out.size))
  have HB1_3 : Hid (Below W1.heap.size W1 W3) := Lib.hid (HB1_2.out.trans ((by rw [← HW3.out]; exact (Below.refl _ _).alloc (Nat.le_refl _) _ : Below W2.heap.size W2 W3).mono HB1_2.out.size))
  have HB2_3 : Hid (Below W2.heap.size W2 W3) := Lib.hid (by rw [← HW3.out]; exact (Below.refl _ _).alloc (Nat.le_refl _) _)
  have HX_o : Hid (∀ W, Below W3.heap.size W3 W → W.heap[W2.heap.size]? = some (.cells #[.int .i64 i', .int .i64 a', .int .i64 y', .int .i64 d', .int .i64 q', .int .i64 p', .int .i64 f', .int .i64 ph', .int .i64 m', .int .i64 r', .int .i64 v', .bool g'] 23 (0, 0))) := Lib.hid (fun W hb => (hb.block _ (by rw [← HW3.out]; simp)).trans (by rw [← HW3.out]; exact heap_alloc_new _ _))
  rcases HER.out with h0 | herr
  · subst h0
    obtain ⟨hk, hr, hR, hov⟩ := begin_right HBG.out
    obtain ⟨l1, l2, l3, l4, l5⟩ := begin_life HBG.out
    have hfo := HFO.out
    simp only [Or.mk.injEq] at hov
    obtain ⟨v1, v2, v3, v4, v5, v6, rfl, rfl, rfl, rfl, rfl, rfl⟩ := hov
    obtain rfl : o = i' := v1.symm
    obtain rfl : a = a' := v2.symm
    obtain rfl : y = y' := v3.symm
    obtain rfl : d = d' := v4.symm
    obtain rfl : q = q' := v5.symm
    obtain rfl : p = p' := v6.symm
    have t1 := take_ok l1
    have t2 := take_ok l2
    have t3 := take_ok l3
    have HT1 : Hid (take ⟨o, a, y, d, q, p, 0, 1, 0, 0, 0, false⟩ ⟨1, 2, o, 0, 0⟩ = (⟨o, a, y, d, q, p, 0, 3, 0, 0, 0, false⟩, 0)) := Lib.hid l1
    have HT2 : Hid (take ⟨o, a, y, d, q, p, 0, 1, 0, 0, 0, false⟩ ⟨1, 1, o, 0, 0⟩ = (⟨o, a, y, d, q, p, 0, 2, 0, 0, 0, false⟩, 0)) := Lib.hid l2
    have HT3 : Hid (take ⟨o, a, y, d, q, p, 0, 2, 0, 0, 0, false⟩ ⟨2, 4, o, 0, 0⟩ = (⟨o, a, y, d, q, p, 0, 3, 0, 0, 0, false⟩, 0)) := Lib.hid l3
    have HO1 : Hid (open_ ⟨o, a, y, d, q, p, 0, 1, 0, 0, 0, false⟩ = q) := Lib.hid l4
    have HO2 : Hid (open_ ⟨o, a, y, d, q, p, 0, 2, 0, 0, 0, false⟩ = q) := Lib.hid l5
    have HRD : Hid (open_ ⟨o, a, y, d, q, p, 0, 3, 0, 0, 0, false⟩ = 0) := Lib.hid (done_open (o := ⟨o, a, y, d, q, p, 0, 3, 0, 0, 0, false⟩) (took_right hR t1.2.2.2))
    have HRO : Hid (right ⟨o, a, y, d, q, p, 0, 1, 0, 0, 0, false⟩ = true) := Lib.hid (right_iff.2 hR)
    have HF1 : Hid ((⟨o, a, y, d, q, p, 0, 1, 0, 0, 0, false⟩ : Or).fine) := Lib.hid hfo
    have HF2 : Hid ((⟨o, a, y, d, q, p, 0, 2, 0, 0, 0, false⟩ : Or).fine) := Lib.hid (take_fine hfo l2)
    have HFD : Hid ((⟨o, a, y, d, q, p, 0, 3, 0, 0, 0, false⟩ : Or).fine) := Lib.hid (take_fine hfo l1)
    have HI : Hid (frame.inR o) := Lib.hid HF.out.2.1
    clear hk hr hR l1 l2 l3 l4 l5 hfo t1 t2 t3 HER
    obtain ⟨k_0, k_1, k_2, k_3, k_4, k_5, k_6, k_7, k_8, k_9, k_10, k_11, k_12⟩ := cells13 (HX0.out W3 HB0_3.out)
    rw [← HW3.out] at k_0 k_1 k_2 k_3 k_4 k_5 k_6 k_7 k_8 k_9 k_10 k_11 k_12
    go_wp2_with fail
    refine Calls.mono (order.take_is o a y d q p 0 1 0 0 0 false 1 2 o 0 0 HF1.out ⟨by simp [frame.inR], by simp [frame.inR], HI.out, rec.in0, rec.in0⟩ HT1.out _) ?_
    rintro e4 W4 ⟨rfl, hb⟩
    rw [HW3.out] at hb
    have HB0_4 : Hid (Below W0.heap.size W0 W4) := Lib.hid (HB0_3.out.trans ((hb : Below W3.heap.size W3 W4).mono HB0_3.out.size))
    have HB1_4 : Hid (Below W1.heap.size W1 W4) := Lib.hid (HB1_3.out.trans ((hb : Below W3.heap.size W3 W4).mono HB1_3.out.size))
    have HB2_4 : Hid (Below W2.heap.size W2 W4) := Lib.hid (HB2_3.out.trans ((hb : Below W3.heap.size W3 W4).mono HB2_3.out.size))
    have HB3_4 : Hid (Below W3.heap.size W3 W4) := Lib.hid (hb)
    clear hb
    clear k_0 k_1 k_2 k_3 k_4 k_5 k_6 k_7 k_8 k_9 k_10 k_11 k_12
    obtain ⟨W5, HW5⟩ : ∃ W, Hid ((W4.alloc (.cells #[.int .i64 o, .int .i64 a, .int .i64 y, .int .i64 d, .int .i64 q, .int .i64 p, .int .i64 0, .int .i64 3, .int .i64 0, .int .i64 0, .int .i64 0, .bool false] 23)) = W) := ⟨_, Lib.hid rfl⟩
    have HB0_5 : Hid (Below W0.heap.size W0 W5) := Lib.hid (HB0_4.out.trans ((by rw [← HW5.out]; exact (Below.refl _ _).alloc (Nat.le_refl _) _ : Below W4.heap.size W4 W5).mono HB0_4.out.size))
    have HB1_5 : Hid (Below W1.heap.size W1 W5) := Lib.hid (HB1_4.out.trans ((by rw [← HW5.out]; exact (Below.refl _ _).alloc (Nat.le_refl _) _ : Below W4.heap.size W4 W5).mono HB1_4.out.size))
    have HB2_5 : Hid (Below W2.heap.size W2 W5) := Lib.hid (HB2_4.out.trans ((by rw [← HW5.out]; exact (Below.refl _ _).alloc (Nat.le_refl _) _ : Below W4.heap.size W4 W5).mono HB2_4.out.size))
    have HB3_5 : Hid (Below W3.heap.size W3 W5) := Lib.hid (HB3_4.out.trans ((by rw [← HW5.out]; exact (Below.refl _ _).alloc (Nat.le_refl _) _ : Below W4.heap.size W4 W5).mono HB3_4.out.size))
    have HB4_5 : Hid (Below W4.heap.size W4 W5) := Lib.hid (by rw [← HW5.out]; exact (Below.refl _ _).alloc (Nat.le_refl _) _)
    have HX_p : Hid (∀ W, Below W5.heap.size W5 W → W.heap[W4.heap.size]? = some (.cells #[.int .i64 o, .int .i64 a, .int .i64 y, .int .i64 d, .int .i64 q, .int .i64 p, .int .i64 0, .int .i64 3, .int .i64 0, .int .i64 0, .int .i64 0, .bool false] 23 (0, 0))) := Lib.hid (fun W hb => (hb.block _ (by rw [← HW5.out]; simp)).trans (by rw [← HW5.out]; exact heap_alloc_new _ _))
    obtain ⟨k_0, k_1, k_2, k_3, k_4, k_5, k_6, k_7, k_8, k_9, k_10, k_11, k_12⟩ := cells13 (HX0.out W5 HB0_5.out)
    rw [← HW5.out] at k_0 k_1 k_2 k_3 k_4 k_5 k_6 k_7 k_8 k_9 k_10 k_11 k_12
    obtain ⟨o_0, o_1, o_2, o_3, o_4, o_5, o_6, o_7, o_8, o_9, o_10, o_11⟩ := cells12 (HX_o.out W5 HB3_5.out)
    rw [← HW5.out] at o_0 o_1 o_2 o_3 o_4 o_5 o_6 o_7 o_8 o_9 o_10 o_11
    go_wp2_with fail
    refine Calls.mono (order.take_is o a y d q p 0 1 0 0 0 false 1 1 o 0 0 HF1.out ⟨by simp [frame.inR], by simp [frame.inR], HI.out, rec.in0, rec.in0⟩ HT2.out _) ?_
    rintro e6 W6 ⟨rfl, hb⟩
    rw [HW5.out] at hb
    have HB0_6 : Hid (Below W0.heap.size W0 W6) := Lib.hid (HB0_5.out.trans ((hb : Below W5.heap.size W5 W6).mono HB0_5.out.size))
    have HB1_6 : Hid (Below W1.heap.size W1 W6) := Lib.hid (HB1_5.out.trans ((hb : Below W5.heap.size W5 W6).mono HB1_5.out.size))
    have HB2_6 : Hid (Below W2.heap.size W2 W6) := Lib.hid (HB2_5.out.trans ((hb : Below W5.heap.size W5 W6).mono HB2_5.out.size))
    have HB3_6 : Hid (Below W3.heap.size W3 W6) := Lib.hid (HB3_5.out.trans ((hb : Below W5.heap.size W5 W6).mono HB3_5.out.size))
    have HB4_6 : Hid (Below W4.heap.size W4 W6) := Lib.hid (HB4_5.out.trans ((hb : Below W5.heap.size W5 W6).mono HB4_5.out.size))
    have HB5_6 : Hid (Below W5.heap.size W5 W6) := Lib.hid (hb)
    clear hb
    clear k_0 k_1 k_2 k_3 k_4 k_5 k_6 k_7 k_8 k_9 k_10 k_11 k_12 o_0 o_1 o_2 o_3 o_4 o_5 o_6 o_7 o_8 o_9 o_10 o_11
    obtain ⟨W7, HW7⟩ : ∃ W, Hid ((W6.alloc (.cells #[.int .i64 o, .int .i64 a, .int .i64 y, .int .i64 d, .int .i64 q, .int .i64 p, .int .i64 0, .int .i64 2, .int .i64 0, .int .i64 0, .int .i64 0, .bool false] 23)) = W) := ⟨_, Lib.hid rfl⟩
    have HB0_7 : Hid (Below W0.heap.size W0 W7) := Lib.hid (HB0_6.out.trans ((by rw [← HW7.out]; exact (Below.refl _ _).alloc (Nat.le_refl _) _ : Below W6.heap.size W6 W7).mono HB0_6.out.size))
    have HB1_7 : Hid (Below W1.heap.size W1 W7) := Lib.hid (HB1_6.out.trans ((by rw [← HW7.out]; exact (Below.refl _ _).alloc (Nat.le_refl _) _ : Below W6.heap.size W6 W7).mono HB1_6.out.size))
    have HB2_7 : Hid (Below W2.heap.size W2 W7) := Lib.hid (HB2_6.out.trans ((by rw [← HW7.out]; exact (Below.refl _ _).alloc (Nat.le_refl _) _ : Below W6.heap.size W6 W7).mono HB2_6.out.size))
    have HB3_7 : Hid (Below W3.heap.size W3 W7) := Lib.hid (HB3_6.out.trans ((by rw [← HW7.out]; exact (Below.refl _ _).alloc (Nat.le_refl _) _ : Below W6.heap.size W6 W7).mono HB3_6.out.size))
    have HB4_7 : Hid (Below W4.heap.size W4 W7) := Lib.hid (HB4_6.out.trans ((by rw [← HW7.out]; exact (Below.refl _ _).alloc (Nat.le_refl _) _ : Below W6.heap.size W6 W7).mono HB4_6.out.size))
    have HB5_7 : Hid (Below W5.heap.size W5 W7) := Lib.hid (HB5_6.out.trans ((by rw [← HW7.out]; exact (Below.refl _ _).alloc (Nat.le_refl _) _ : Below W6.heap.size W6 W7).mono HB5_6.out.size))
    have HB6_7 : Hid (Below W6.heap.size W6 W7) := Lib.hid (by rw [← HW7.out]; exact (Below.refl _ _).alloc (Nat.le_refl _) _)
    have HX_q : Hid (∀ W, Below W7.heap.size W7 W → W.heap[W6.heap.size]? = some (.cells #[.int .i64 o, .int .i64 a, .int .i64 y, .int .i64 d, .int .i64 q, .int .i64 p, .int .i64 0, .int .i64 2, .int .i64 0, .int .i64 0, .int .i64 0, .bool false] 23 (0, 0))) := Lib.hid (fun W hb => (hb.block _ (by rw [← HW7.out]; simp)).trans (by rw [← HW7.out]; exact heap_alloc_new _ _))
    obtain ⟨k_0, k_1, k_2, k_3, k_4, k_5, k_6, k_7, k_8, k_9, k_10, k_11, k_12⟩ := cells13 (HX0.out W7 HB0_7.out)
    rw [← HW7.out] at k_0 k_1 k_2 k_3 k_4 k_5 k_6 k_7 k_8 k_9 k_10 k_11 k_12
    go_wp2_with fail
    refine Calls.mono (order.take_is o a y d q p 0 2 0 0 0 false 2 4 o 0 0 HF2.out ⟨by simp [frame.inR], by simp [frame.inR], HI.out, rec.in0, rec.in0⟩ HT3.out _) ?_
    rintro e8 W8 ⟨rfl, hb⟩
    rw [HW7.out] at hb
    have HB0_8 : Hid (Below W0.heap.size W0 W8) := Lib.hid (HB0_7.out.trans ((hb : Below W7.heap.size W7 W8).mono HB0_7.out.size))
    have HB1_8 : Hid (Below W1.heap.size W1 W8) := Lib.hid (HB1_7.out.trans ((hb : Below W7.heap.size W7 W8).mono HB1_7.out.size))
    have HB2_8 : Hid (Below W2.heap.size W2 W8) := Lib.hid (HB2_7.out.trans ((hb : Below W7.heap.size W7 W8).mono HB2_7.out.size))
    have HB3_8 : Hid (Below W3.heap.size W3 W8) := Lib.hid (HB3_7.out.trans ((hb : Below W7.heap.size W7 W8).mono HB3_7.out.size))
    have HB4_8 : Hid (Below W4.heap.size W4 W8) := Lib.hid (HB4_7.out.trans ((hb : Below W7.heap.size W7 W8).mono HB4_7.out.size))
    have HB5_8 : Hid (Below W5.heap.size W5 W8) := Lib.hid (HB5_7.out.trans ((hb : Below W7.heap.size W7 W8).mono HB5_7.out.size))
    have HB6_8 : Hid (Below W6.heap.size W6 W8) := Lib.hid (HB6_7.out.trans ((hb : Below W7.heap.size W7 W8).mono HB6_7.out.size))
    have HB7_8 : Hid (Below W7.heap.size W7 W8) := Lib.hid (hb)
    clear hb
    clear k_0 k_1 k_2 k_3 k_4 k_5 k_6 k_7 k_8 k_9 k_10 k_11 k_12
    obtain ⟨W9, HW9⟩ : ∃ W, Hid ((W8.alloc (.cells #[.int .i64 o, .int .i64 a, .int .i64 y, .int .i64 d, .int .i64 q, .int .i64 p, .int .i64 0, .int .i64 3, .int .i64 0, .int .i64 0, .int .i64 0, .bool false] 23)) = W) := ⟨_, Lib.hid rfl⟩
    have HB0_9 : Hid (Below W0.heap.size W0 W9) := Lib.hid (HB0_8.out.trans ((by rw [← HW9.out]; exact (Below.refl _ _).alloc (Nat.le_refl _) _ : Below W8.heap.size W8 W9).mono HB0_8.out.size))
    have HB1_9 : Hid (Below W1.heap.size W1 W9) := Lib.hid (HB1_8.out.trans ((by rw [← HW9.out]; exact (Below.refl _ _).alloc (Nat.le_refl _) _ : Below W8.heap.size W8 W9).mono HB1_8.out.size))
    have HB2_9 : Hid (Below W2.heap.size W2 W9) := Lib.hid (HB2_8.out.trans ((by rw [← HW9.out]; exact (Below.refl _ _).alloc (Nat.le_refl _) _ : Below W8.heap.size W8 W9).mono HB2_8.out.size))
    have HB3_9 : Hid (Below W3.heap.size W3 W9) := Lib.hid (HB3_8.out.trans ((by rw [← HW9.out]; exact (Below.refl _ _).alloc (Nat.le_refl _) _ : Below W8.heap.size W8 W9).mono HB3_8.out.size))
    have HB4_9 : Hid (Below W4.heap.size W4 W9) := Lib.hid (HB4_8.out.trans ((by rw [← HW9.out]; exact (Below.refl _ _).alloc (Nat.le_refl _) _ : Below W8.heap.size W8 W9).mono HB4_8.out.size))
    have HB5_9 : Hid (Below W5.heap.size W5 W9) := Lib.hid (HB5_8.out.trans ((by rw [← HW9.out]; exact (Below.refl _ _).alloc (Nat.le_refl _) _ : Below W8.heap.size W8 W9).mono HB5_8.out.size))
    have HB6_9 : Hid (Below W6.heap.size W6 W9) := Lib.hid (HB6_8.out.trans ((by rw [← HW9.out]; exact (Below.refl _ _).alloc (Nat.le_refl _) _ : Below W8.heap.size W8 W9).mono HB6_8.out.size))
    have HB7_9 : Hid (Below W7.heap.size W7 W9) := Lib.hid (HB7_8.out.trans ((by rw [← HW9.out]; exact (Below.refl _ _).alloc (Nat.le_refl _) _ : Below W8.heap.size W8 W9).mono HB7_8.out.size))
    have HB8_9 : Hid (Below W8.heap.size W8 W9) := Lib.hid (by rw [← HW9.out]; exact (Below.refl _ _).alloc (Nat.le_refl _) _)
    have HX_s : Hid (∀ W, Below W9.heap.size W9 W → W.heap[W8.heap.size]? = some (.cells #[.int .i64 o, .int .i64 a, .int .i64 y, .int .i64 d, .int .i64 q, .int .i64 p, .int .i64 0, .int .i64 3, .int .i64 0, .int .i64 0, .int .i64 0, .bool false] 23 (0, 0))) := Lib.hid (fun W hb => (hb.block _ (by rw [← HW9.out]; simp)).trans (by rw [← HW9.out]; exact heap_alloc_new _ _))
    go_upto_region 9 with fail
    rw [HW9.out]
    refine wp_region_held_drew (S := fun W => Below W9.heap.size W9 W) (by kernel_rfl) (Below.refl _ _).drew (fun _ => ?_)
    obtain ⟨W10, hW10⟩ : ∃ x, x = W9.drew := ⟨_, rfl⟩
    rw [← hW10]
    have HB0_10 : Hid (Below W0.heap.size W0 W10) := Lib.hid (HB0_9.out.trans ((by rw [hW10]; exact (Below.refl _ _).drew : Below W9.heap.size W9 W10).mono HB0_9.out.size))
    have HB1_10 : Hid (Below W1.heap.size W1 W10) := Lib.hid (HB1_9.out.trans ((by rw [hW10]; exact (Below.refl _ _).drew : Below W9.heap.size W9 W10).mono HB1_9.out.size))
    have HB2_10 : Hid (Below W2.heap.size W2 W10) := Lib.hid (HB2_9.out.trans ((by rw [hW10]; exact (Below.refl _ _).drew : Below W9.heap.size W9 W10).mono HB2_9.out.size))
    have HB3_10 : Hid (Below W3.heap.size W3 W10) := Lib.hid (HB3_9.out.trans ((by rw [hW10]; exact (Below.refl _ _).drew : Below W9.heap.size W9 W10).mono HB3_9.out.size))
    have HB4_10 : Hid (Below W4.heap.size W4 W10) := Lib.hid (HB4_9.out.trans ((by rw [hW10]; exact (Below.refl _ _).drew : Below W9.heap.size W9 W10).mono HB4_9.out.size))
    have HB5_10 : Hid (Below W5.heap.size W5 W10) := Lib.hid (HB5_9.out.trans ((by rw [hW10]; exact (Below.refl _ _).drew : Below W9.heap.size W9 W10).mono HB5_9.out.size))
    have HB6_10 : Hid (Below W6.heap.size W6 W10) := Lib.hid (HB6_9.out.trans ((by rw [hW10]; exact (Below.refl _ _).drew : Below W9.heap.size W9 W10).mono HB6_9.out.size))
    have HB7_10 : Hid (Below W7.heap.size W7 W10) := Lib.hid (HB7_9.out.trans ((by rw [hW10]; exact (Below.refl _ _).drew : Below W9.heap.size W9 W10).mono HB7_9.out.size))
    have HB8_10 : Hid (Below W8.heap.size W8 W10) := Lib.hid (HB8_9.out.trans ((by rw [hW10]; exact (Below.refl _ _).drew : Below W9.heap.size W9 W10).mono HB8_9.out.size))
    have HB9_10 : Hid (Below W9.heap.size W9 W10) := Lib.hid (by rw [hW10]; exact (Below.refl _ _).drew)
    clear hW10
    refine wpAnyH_take (i := 0) (v := .agg #[.int .i64 o, .int .i64 a, .int .i64 y, .int .i64 d, .int .i64 q, .int .i64 p, .int .i64 0, .int .i64 1, .int .i64 0, .int .i64 0, .int .i64 0, .bool false]) rfl (by kernel_rfl) (by kernel_rfl) (by kernel_rfl) (fun _ _ _ h => h) (Or.inl ⟨by kernel_rfl, ?h0⟩) HB9_10.out ?_
    case h0 => (intro WX hWX; obtain ⟨y0_0, y0_1, y0_2, y0_3, y0_4, y0_5, y0_6, y0_7, y0_8, y0_9, y0_10, y0_11⟩ := cells12 (HX_o.out WX (HB3_9.out.trans ((show Below W9.heap.size W9 WX from hWX).mono HB3_9.out.size))); go_simp)
    go_simp
    refine wpAnyH_ready (rs := [1]) (by kernel_rfl) (by simp) ?_
    refine AllReadyH.cons rfl (fun K hK => ?_) AllReadyH.nil
    go_simp
    go_wp2_with (refine Calls.mono (order.right_is o a y d q p 0 1 0 0 0 false HF1.out HRO.out _) ?_; rintro e11 W11 ⟨rfl, hb⟩)
    have HB0_11 : Hid (Below W0.heap.size W0 W11) := Lib.hid (HB0_10.out.trans ((hb : Below W10.heap.size W10 W11).mono HB0_10.out.size))
    have HB1_11 : Hid (Below W1.heap.size W1 W11) := Lib.hid (HB1_10.out.trans ((hb : Below W10.heap.size W10 W11).mono HB1_10.out.size))
    have HB2_11 : Hid (Below W2.heap.size W2 W11) := Lib.hid (HB2_10.out.trans ((hb : Below W10.heap.size W10 W11).mono HB2_10.out.size))
    have HB3_11 : Hid (Below W3.heap.size W3 W11) := Lib.hid (HB3_10.out.trans ((hb : Below W10.heap.size W10 W11).mono HB3_10.out.size))
    have HB4_11 : Hid (Below W4.heap.size W4 W11) := Lib.hid (HB4_10.out.trans ((hb : Below W10.heap.size W10 W11).mono HB4_10.out.size))
    have HB5_11 : Hid (Below W5.heap.size W5 W11) := Lib.hid (HB5_10.out.trans ((hb : Below W10.heap.size W10 W11).mono HB5_10.out.size))
    have HB6_11 : Hid (Below W6.heap.size W6 W11) := Lib.hid (HB6_10.out.trans ((hb : Below W10.heap.size W10 W11).mono HB6_10.out.size))
    have HB7_11 : Hid (Below W7.heap.size W7 W11) := Lib.hid (HB7_10.out.trans ((hb : Below W10.heap.size W10 W11).mono HB7_10.out.size))
    have HB8_11 : Hid (Below W8.heap.size W8 W11) := Lib.hid (HB8_10.out.trans ((hb : Below W10.heap.size W10 W11).mono HB8_10.out.size))
    have HB9_11 : Hid (Below W9.heap.size W9 W11) := Lib.hid (HB9_10.out.trans ((hb : Below W10.heap.size W10 W11).mono HB9_10.out.size))
    have HB10_11 : Hid (Below W10.heap.size W10 W11) := Lib.hid (hb)
    clear hb
    refine hK.out _ _ HB9_11.out (fun _ => ?_)
    clear hK K
    go_simp
    refine wpAnyH_take (i := 2) (v := .bool true) rfl (by kernel_rfl) (by kernel_rfl) (by kernel_rfl) (fun _ _ _ h => h) (Or.inl ⟨by kernel_rfl, ?h2⟩) HB9_11.out ?_
    case h2 => (intro WX hWX; go_simp)
    go_simp
    refine wpAnyH_take (i := 3) (v := .pointer (some ⟨W2.heap.size, 7, none⟩)) rfl (by kernel_rfl) (by kernel_rfl) (by kernel_rfl) (fun _ _ _ h => h) (Or.inl ⟨by kernel_rfl, ?h3⟩) HB9_11.out ?_
    case h3 => (intro WX hWX; go_simp)
    go_simp
    refine wpAnyH_take (i := 4) (v := .int .i64 1) rfl (by kernel_rfl) (by kernel_rfl) (by kernel_rfl) (fun _ _ _ h => h) (Or.inl ⟨by kernel_rfl, ?h4⟩) HB9_11.out ?_
    case h4 => (intro WX hWX; obtain ⟨y0_0, y0_1, y0_2, y0_3, y0_4, y0_5, y0_6, y0_7, y0_8, y0_9, y0_10, y0_11⟩ := cells12 (HX_o.out WX (HB3_9.out.trans ((show Below W9.heap.size W9 WX from hWX).mono HB3_9.out.size))); go_simp)
    go_simp
    refine wpAnyH_take (i := 5) (v := .bool true) rfl (by kernel_rfl) (by kernel_rfl) (by kernel_rfl) (fun _ _ _ h => h) (Or.inl ⟨by kernel_rfl, ?h5⟩) HB9_11.out ?_
    case h5 => (intro WX hWX; go_simp)
    go_simp
    refine wpAnyH_take (i := 6) (v := .bool true) rfl (by kernel_rfl) (by kernel_rfl) (by kernel_rfl) (fun _ _ _ h => h) (Or.inl ⟨by kernel_rfl, ?h6⟩) HB9_11.out ?_
    case h6 => (intro WX hWX; go_simp)
    go_simp
    refine wpAnyH_take (i := 7) (v := .bool true) rfl (by kernel_rfl) (by kernel_rfl) (by kernel_rfl) (fun _ _ _ h => h) (Or.inl ⟨by kernel_rfl, ?h7⟩) HB9_11.out ?_
    case h7 => (intro WX hWX; go_simp)
    go_simp
    refine wpAnyH_take (i := 8) (v := .agg #[.int .i64 o, .int .i64 a, .int .i64 y, .int .i64 d, .int .i64 q, .int .i64 p, .int .i64 0, .int .i64 1, .int .i64 0, .int .i64 0, .int .i64 0, .bool false]) rfl (by kernel_rfl) (by kernel_rfl) (by kernel_rfl) (fun _ _ _ h => h) (Or.inl ⟨by kernel_rfl, ?h8⟩) HB9_11.out ?_
    case h8 => (intro WX hWX; obtain ⟨y0_0, y0_1, y0_2, y0_3, y0_4, y0_5, y0_6, y0_7, y0_8, y0_9, y0_10, y0_11⟩ := cells12 (HX_o.out WX (HB3_9.out.trans ((show Below W9.heap.size W9 WX from hWX).mono HB3_9.out.size))); go_simp)
    go_simp
    refine wpAnyH_take (i := 10) (v := .pointer (some ⟨w.heap.size, 5, none⟩)) rfl (by kernel_rfl) (by kernel_rfl) (by kernel_rfl) (fun _ _ _ h => h) (Or.inl ⟨by kernel_rfl, ?h10⟩) HB9_11.out ?_
    case h10 => (intro WX hWX; go_simp)
    go_simp
    refine wpAnyH_take (i := 11) (v := .int .i64 q) rfl (by kernel_rfl) (by kernel_rfl) (by kernel_rfl) (fun _ _ _ h => h) (Or.inl ⟨by kernel_rfl, ?h11⟩) HB9_11.out ?_
    case h11 => (intro WX hWX; obtain ⟨y0_0, y0_1, y0_2, y0_3, y0_4, y0_5, y0_6, y0_7, y0_8, y0_9, y0_10, y0_11, y0_12⟩ := cells13 (HX0.out WX (HB0_9.out.trans ((show Below W9.heap.size W9 WX from hWX).mono HB0_9.out.size))); go_simp)
    go_simp
    refine wpAnyH_ready (rs := [9]) (by kernel_rfl) (by simp) ?_
    refine AllReadyH.cons rfl (fun K hK => ?_) AllReadyH.nil
    go_simp
    go_wp2_with (refine Calls.mono (order.open_is o a y d q p 0 1 0 0 0 false HF1.out HO1.out _) ?_; rintro e12 W12 ⟨rfl, hb⟩)
    have HB0_12 : Hid (Below W0.heap.size W0 W12) := Lib.hid (HB0_11.out.trans ((hb : Below W11.heap.size W11 W12).mono HB0_11.out.size))
    have HB1_12 : Hid (Below W1.heap.size W1 W12) := Lib.hid (HB1_11.out.trans ((hb : Below W11.heap.size W11 W12).mono HB1_11.out.size))
    have HB2_12 : Hid (Below W2.heap.size W2 W12) := Lib.hid (HB2_11.out.trans ((hb : Below W11.heap.size W11 W12).mono HB2_11.out.size))
    have HB3_12 : Hid (Below W3.heap.size W3 W12) := Lib.hid (HB3_11.out.trans ((hb : Below W11.heap.size W11 W12).mono HB3_11.out.size))
    have HB4_12 : Hid (Below W4.heap.size W4 W12) := Lib.hid (HB4_11.out.trans ((hb : Below W11.heap.size W11 W12).mono HB4_11.out.size))
    have HB5_12 : Hid (Below W5.heap.size W5 W12) := Lib.hid (HB5_11.out.trans ((hb : Below W11.heap.size W11 W12).mono HB5_11.out.size))
    have HB6_12 : Hid (Below W6.heap.size W6 W12) := Lib.hid (HB6_11.out.trans ((hb : Below W11.heap.size W11 W12).mono HB6_11.out.size))
    have HB7_12 : Hid (Below W7.heap.size W7 W12) := Lib.hid (HB7_11.out.trans ((hb : Below W11.heap.size W11 W12).mono HB7_11.out.size))
    have HB8_12 : Hid (Below W8.heap.size W8 W12) := Lib.hid (HB8_11.out.trans ((hb : Below W11.heap.size W11 W12).mono HB8_11.out.size))
    have HB9_12 : Hid (Below W9.heap.size W9 W12) := Lib.hid (HB9_11.out.trans ((hb : Below W11.heap.size W11 W12).mono HB9_11.out.size))
    have HB10_12 : Hid (Below W10.heap.size W10 W12) := Lib.hid (HB10_11.out.trans ((hb : Below W11.heap.size W11 W12).mono HB10_11.out.size))
    have HB11_12 : Hid (Below W11.heap.size W11 W12) := Lib.hid (hb)
    clear hb
    refine hK.out _ _ HB9_12.out (fun _ => ?_)
    clear hK K
    go_simp
    refine wpAnyH_take (i := 12) (v := .bool true) rfl (by kernel_rfl) (by kernel_rfl) (by kernel_rfl) (fun _ _ _ h => h) (Or.inl ⟨by kernel_rfl, ?h12⟩) HB9_12.out ?_
    case h12 => (intro WX hWX; go_simp)
    go_simp
    refine wpAnyH_take (i := 13) (v := .bool true) rfl (by kernel_rfl) (by kernel_rfl) (by kernel_rfl) (fun _ _ _ h => h) (Or.inl ⟨by kernel_rfl, ?h13⟩) HB9_12.out ?_
    case h13 => (intro WX hWX; go_simp)
    go_simp
    refine wpAnyH_take (i := 14) (v := .bool true) rfl (by kernel_rfl) (by kernel_rfl) (by kernel_rfl) (fun _ _ _ h => h) (Or.inl ⟨by kernel_rfl, ?h14⟩) HB9_12.out ?_
    case h14 => (intro WX hWX; go_simp)
    go_simp
    refine wpAnyH_take (i := 15) (v := .int .i64 0) rfl (by kernel_rfl) (by kernel_rfl) (by kernel_rfl) (fun _ _ _ h => h) (Or.inl ⟨by kernel_rfl, ?h15⟩) HB9_12.out ?_
    case h15 => (intro WX hWX; go_simp)
    go_simp
    refine wpAnyH_take (i := 16) (v := .bool true) rfl (by kernel_rfl) (by kernel_rfl) (by kernel_rfl) (fun _ _ _ h => h) (Or.inl ⟨by kernel_rfl, ?h16⟩) HB9_12.out ?_
    case h16 => (intro WX hWX; go_simp)
    go_simp
    refine wpAnyH_take (i := 17) (v := .bool true) rfl (by kernel_rfl) (by kernel_rfl) (by kernel_rfl) (fun _ _ _ h => h) (Or.inl ⟨by kernel_rfl, ?h17⟩) HB9_12.out ?_
    case h17 => (intro WX hWX; go_simp)
    go_simp
    refine wpAnyH_take (i := 18) (v := .bool true) rfl (by kernel_rfl) (by kernel_rfl) (by kernel_rfl) (fun _ _ _ h => h) (Or.inl ⟨by kernel_rfl, ?h18⟩) HB9_12.out ?_
    case h18 => (intro WX hWX; go_simp)
    go_simp
    refine wpAnyH_take (i := 19) (v := .pointer (some ⟨W4.heap.size, 7, none⟩)) rfl (by kernel_rfl) (by kernel_rfl) (by kernel_rfl) (fun _ _ _ h => h) (Or.inl ⟨by kernel_rfl, ?h19⟩) HB9_12.out ?_
    case h19 => (intro WX hWX; go_simp)
    go_simp
    refine wpAnyH_take (i := 20) (v := .int .i64 3) rfl (by kernel_rfl) (by kernel_rfl) (by kernel_rfl) (fun _ _ _ h => h) (Or.inl ⟨by kernel_rfl, ?h20⟩) HB9_12.out ?_
    case h20 => (intro WX hWX; obtain ⟨y0_0, y0_1, y0_2, y0_3, y0_4, y0_5, y0_6, y0_7, y0_8, y0_9, y0_10, y0_11⟩ := cells12 (HX_p.out WX (HB5_9.out.trans ((show Below W9.heap.size W9 WX from hWX).mono HB5_9.out.size))); go_simp)
    go_simp
    refine wpAnyH_take (i := 21) (v := .bool true) rfl (by kernel_rfl) (by kernel_rfl) (by kernel_rfl) (fun _ _ _ h => h) (Or.inl ⟨by kernel_rfl, ?h21⟩) HB9_12.out ?_
    case h21 => (intro WX hWX; go_simp)
    go_simp
    refine wpAnyH_take (i := 22) (v := .bool true) rfl (by kernel_rfl) (by kernel_rfl) (by kernel_rfl) (fun _ _ _ h => h) (Or.inl ⟨by kernel_rfl, ?h22⟩) HB9_12.out ?_
    case h22 => (intro WX hWX; go_simp)
    go_simp
    refine wpAnyH_take (i := 23) (v := .bool true) rfl (by kernel_rfl) (by kernel_rfl) (by kernel_rfl) (fun _ _ _ h => h) (Or.inl ⟨by kernel_rfl, ?h23⟩) HB9_12.out ?_
    case h23 => (intro WX hWX; go_simp)
    go_simp
    refine wpAnyH_take (i := 24) (v := .agg #[.int .i64 o, .int .i64 a, .int .i64 y, .int .i64 d, .int .i64 q, .int .i64 p, .int .i64 0, .int .i64 3, .int .i64 0, .int .i64 0, .int .i64 0, .bool false]) rfl (by kernel_rfl) (by kernel_rfl) (by kernel_rfl) (fun _ _ _ h => h) (Or.inl ⟨by kernel_rfl, ?h24⟩) HB9_12.out ?_
    case h24 => (intro WX hWX; obtain ⟨y0_0, y0_1, y0_2, y0_3, y0_4, y0_5, y0_6, y0_7, y0_8, y0_9, y0_10, y0_11⟩ := cells12 (HX_p.out WX (HB5_9.out.trans ((show Below W9.heap.size W9 WX from hWX).mono HB5_9.out.size))); go_simp)
    go_simp
    refine wpAnyH_ready (rs := [25]) (by kernel_rfl) (by simp) ?_
    refine AllReadyH.cons rfl (fun K hK => ?_) AllReadyH.nil
    go_simp
    go_wp2_with (refine Calls.mono (order.open_is o a y d q p 0 3 0 0 0 false HFD.out HRD.out _) ?_; rintro e13 W13 ⟨rfl, hb⟩)
    have HB0_13 : Hid (Below W0.heap.size W0 W13) := Lib.hid (HB0_12.out.trans ((hb : Below W12.heap.size W12 W13).mono HB0_12.out.size))
    have HB1_13 : Hid (Below W1.heap.size W1 W13) := Lib.hid (HB1_12.out.trans ((hb : Below W12.heap.size W12 W13).mono HB1_12.out.size))
    have HB2_13 : Hid (Below W2.heap.size W2 W13) := Lib.hid (HB2_12.out.trans ((hb : Below W12.heap.size W12 W13).mono HB2_12.out.size))
    have HB3_13 : Hid (Below W3.heap.size W3 W13) := Lib.hid (HB3_12.out.trans ((hb : Below W12.heap.size W12 W13).mono HB3_12.out.size))
    have HB4_13 : Hid (Below W4.heap.size W4 W13) := Lib.hid (HB4_12.out.trans ((hb : Below W12.heap.size W12 W13).mono HB4_12.out.size))
    have HB5_13 : Hid (Below W5.heap.size W5 W13) := Lib.hid (HB5_12.out.trans ((hb : Below W12.heap.size W12 W13).mono HB5_12.out.size))
    have HB6_13 : Hid (Below W6.heap.size W6 W13) := Lib.hid (HB6_12.out.trans ((hb : Below W12.heap.size W12 W13).mono HB6_12.out.size))
    have HB7_13 : Hid (Below W7.heap.size W7 W13) := Lib.hid (HB7_12.out.trans ((hb : Below W12.heap.size W12 W13).mono HB7_12.out.size))
    have HB8_13 : Hid (Below W8.heap.size W8 W13) := Lib.hid (HB8_12.out.trans ((hb : Below W12.heap.size W12 W13).mono HB8_12.out.size))
    have HB9_13 : Hid (Below W9.heap.size W9 W13) := Lib.hid (HB9_12.out.trans ((hb : Below W12.heap.size W12 W13).mono HB9_12.out.size))
    have HB10_13 : Hid (Below W10.heap.size W10 W13) := Lib.hid (HB10_12.out.trans ((hb : Below W12.heap.size W12 W13).mono HB10_12.out.size))
    have HB11_13 : Hid (Below W11.heap.size W11 W13) := Lib.hid (HB11_12.out.trans ((hb : Below W12.heap.size W12 W13).mono HB11_12.out.size))
    have HB12_13 : Hid (Below W12.heap.size W12 W13) := Lib.hid (hb)
    clear hb
    refine hK.out _ _ HB9_13.out (fun _ => ?_)
    clear hK K
    go_simp
    refine wpAnyH_take (i := 26) (v := .bool true) rfl (by kernel_rfl) (by kernel_rfl) (by kernel_rfl) (fun _ _ _ h => h) (Or.inl ⟨by kernel_rfl, ?h26⟩) HB9_13.out ?_
    case h26 => (intro WX hWX; go_simp)
    go_simp
    refine wpAnyH_take (i := 27) (v := .bool true) rfl (by kernel_rfl) (by kernel_rfl) (by kernel_rfl) (fun _ _ _ h => h) (Or.inl ⟨by kernel_rfl, ?h27⟩) HB9_13.out ?_
    case h27 => (intro WX hWX; go_simp)
    go_simp
    refine wpAnyH_take (i := 28) (v := .bool true) rfl (by kernel_rfl) (by kernel_rfl) (by kernel_rfl) (fun _ _ _ h => h) (Or.inl ⟨by kernel_rfl, ?h28⟩) HB9_13.out ?_
    case h28 => (intro WX hWX; go_simp)
    go_simp
    refine wpAnyH_take (i := 29) (v := .int .i64 0) rfl (by kernel_rfl) (by kernel_rfl) (by kernel_rfl) (fun _ _ _ h => h) (Or.inl ⟨by kernel_rfl, ?h29⟩) HB9_13.out ?_
    case h29 => (intro WX hWX; go_simp)
    go_simp
    refine wpAnyH_take (i := 30) (v := .bool true) rfl (by kernel_rfl) (by kernel_rfl) (by kernel_rfl) (fun _ _ _ h => h) (Or.inl ⟨by kernel_rfl, ?h30⟩) HB9_13.out ?_
    case h30 => (intro WX hWX; go_simp)
    go_simp
    refine wpAnyH_take (i := 31) (v := .bool true) rfl (by kernel_rfl) (by kernel_rfl) (by kernel_rfl) (fun _ _ _ h => h) (Or.inl ⟨by kernel_rfl, ?h31⟩) HB9_13.out ?_
    case h31 => (intro WX hWX; go_simp)
    go_simp
    refine wpAnyH_take (i := 32) (v := .bool true) rfl (by kernel_rfl) (by kernel_rfl) (by kernel_rfl) (fun _ _ _ h => h) (Or.inl ⟨by kernel_rfl, ?h32⟩) HB9_13.out ?_
    case h32 => (intro WX hWX; go_simp)
    go_simp
    refine wpAnyH_take (i := 33) (v := .agg #[.int .i64 o, .int .i64 a, .int .i64 y, .int .i64 d, .int .i64 q, .int .i64 p, .int .i64 0, .int .i64 2, .int .i64 0, .int .i64 0, .int .i64 0, .bool false]) rfl (by kernel_rfl) (by kernel_rfl) (by kernel_rfl) (fun _ _ _ h => h) (Or.inl ⟨by kernel_rfl, ?h33⟩) HB9_13.out ?_
    case h33 => (intro WX hWX; obtain ⟨y0_0, y0_1, y0_2, y0_3, y0_4, y0_5, y0_6, y0_7, y0_8, y0_9, y0_10, y0_11⟩ := cells12 (HX_q.out WX (HB7_9.out.trans ((show Below W9.heap.size W9 WX from hWX).mono HB7_9.out.size))); go_simp)
    go_simp
    refine wpAnyH_take (i := 35) (v := .pointer (some ⟨w.heap.size, 5, none⟩)) rfl (by kernel_rfl) (by kernel_rfl) (by kernel_rfl) (fun _ _ _ h => h) (Or.inl ⟨by kernel_rfl, ?h35⟩) HB9_13.out ?_
    case h35 => (intro WX hWX; go_simp)
    go_simp
    refine wpAnyH_take (i := 36) (v := .int .i64 q) rfl (by kernel_rfl) (by kernel_rfl) (by kernel_rfl) (fun _ _ _ h => h) (Or.inl ⟨by kernel_rfl, ?h36⟩) HB9_13.out ?_
    case h36 => (intro WX hWX; obtain ⟨y0_0, y0_1, y0_2, y0_3, y0_4, y0_5, y0_6, y0_7, y0_8, y0_9, y0_10, y0_11, y0_12⟩ := cells13 (HX0.out WX (HB0_9.out.trans ((show Below W9.heap.size W9 WX from hWX).mono HB0_9.out.size))); go_simp)
    go_simp
    refine wpAnyH_ready (rs := [34]) (by kernel_rfl) (by simp) ?_
    refine AllReadyH.cons rfl (fun K hK => ?_) AllReadyH.nil
    go_simp
    go_wp2_with (refine Calls.mono (order.open_is o a y d q p 0 2 0 0 0 false HF2.out HO2.out _) ?_; rintro e14 W14 ⟨rfl, hb⟩)
    have HB0_14 : Hid (Below W0.heap.size W0 W14) := Lib.hid (HB0_13.out.trans ((hb : Below W13.heap.size W13 W14).mono HB0_13.out.size))
    have HB1_14 : Hid (Below W1.heap.size W1 W14) := Lib.hid (HB1_13.out.trans ((hb : Below W13.heap.size W13 W14).mono HB1_13.out.size))
    have HB2_14 : Hid (Below W2.heap.size W2 W14) := Lib.hid (HB2_13.out.trans ((hb : Below W13.heap.size W13 W14).mono HB2_13.out.size))
    have HB3_14 : Hid (Below W3.heap.size W3 W14) := Lib.hid (HB3_13.out.trans ((hb : Below W13.heap.size W13 W14).mono HB3_13.out.size))
    have HB4_14 : Hid (Below W4.heap.size W4 W14) := Lib.hid (HB4_13.out.trans ((hb : Below W13.heap.size W13 W14).mono HB4_13.out.size))
    have HB5_14 : Hid (Below W5.heap.size W5 W14) := Lib.hid (HB5_13.out.trans ((hb : Below W13.heap.size W13 W14).mono HB5_13.out.size))
    have HB6_14 : Hid (Below W6.heap.size W6 W14) := Lib.hid (HB6_13.out.trans ((hb : Below W13.heap.size W13 W14).mono HB6_13.out.size))
    have HB7_14 : Hid (Below W7.heap.size W7 W14) := Lib.hid (HB7_13.out.trans ((hb : Below W13.heap.size W13 W14).mono HB7_13.out.size))
    have HB8_14 : Hid (Below W8.heap.size W8 W14) := Lib.hid (HB8_13.out.trans ((hb : Below W13.heap.size W13 W14).mono HB8_13.out.size))
    have HB9_14 : Hid (Below W9.heap.size W9 W14) := Lib.hid (HB9_13.out.trans ((hb : Below W13.heap.size W13 W14).mono HB9_13.out.size))
    have HB10_14 : Hid (Below W10.heap.size W10 W14) := Lib.hid (HB10_13.out.trans ((hb : Below W13.heap.size W13 W14).mono HB10_13.out.size))
    have HB11_14 : Hid (Below W11.heap.size W11 W14) := Lib.hid (HB11_13.out.trans ((hb : Below W13.heap.size W13 W14).mono HB11_13.out.size))
    have HB12_14 : Hid (Below W12.heap.size W12 W14) := Lib.hid (HB12_13.out.trans ((hb : Below W13.heap.size W13 W14).mono HB12_13.out.size))
    have HB13_14 : Hid (Below W13.heap.size W13 W14) := Lib.hid (hb)
    clear hb
    refine hK.out _ _ HB9_14.out (fun _ => ?_)
    clear hK K
    go_simp
    refine wpAnyH_take (i := 37) (v := .bool true) rfl (by kernel_rfl) (by kernel_rfl) (by kernel_rfl) (fun _ _ _ h => h) (Or.inl ⟨by kernel_rfl, ?h37⟩) HB9_14.out ?_
    case h37 => (intro WX hWX; go_simp)
    go_simp
    refine wpAnyH_take (i := 38) (v := .bool true) rfl (by kernel_rfl) (by kernel_rfl) (by kernel_rfl) (fun _ _ _ h => h) (Or.inl ⟨by kernel_rfl, ?h38⟩) HB9_14.out ?_
    case h38 => (intro WX hWX; go_simp)
    go_simp
    refine wpAnyH_take (i := 39) (v := .bool true) rfl (by kernel_rfl) (by kernel_rfl) (by kernel_rfl) (fun _ _ _ h => h) (Or.inl ⟨by kernel_rfl, ?h39⟩) HB9_14.out ?_
    case h39 => (intro WX hWX; go_simp)
    go_simp
    refine wpAnyH_take (i := 40) (v := .int .i64 0) rfl (by kernel_rfl) (by kernel_rfl) (by kernel_rfl) (fun _ _ _ h => h) (Or.inl ⟨by kernel_rfl, ?h40⟩) HB9_14.out ?_
    case h40 => (intro WX hWX; go_simp)
    go_simp
    refine wpAnyH_take (i := 41) (v := .bool true) rfl (by kernel_rfl) (by kernel_rfl) (by kernel_rfl) (fun _ _ _ h => h) (Or.inl ⟨by kernel_rfl, ?h41⟩) HB9_14.out ?_
    case h41 => (intro WX hWX; go_simp)
    go_simp
    refine wpAnyH_take (i := 42) (v := .bool true) rfl (by kernel_rfl) (by kernel_rfl) (by kernel_rfl) (fun _ _ _ h => h) (Or.inl ⟨by kernel_rfl, ?h42⟩) HB9_14.out ?_
    case h42 => (intro WX hWX; go_simp)
    go_simp
    refine wpAnyH_take (i := 43) (v := .bool true) rfl (by kernel_rfl) (by kernel_rfl) (by kernel_rfl) (fun _ _ _ h => h) (Or.inl ⟨by kernel_rfl, ?h43⟩) HB9_14.out ?_
    case h43 => (intro WX hWX; go_simp)
    go_simp
    refine wpAnyH_take (i := 44) (v := .pointer (some ⟨W8.heap.size, 7, none⟩)) rfl (by kernel_rfl) (by kernel_rfl) (by kernel_rfl) (fun _ _ _ h => h) (Or.inl ⟨by kernel_rfl, ?h44⟩) HB9_14.out ?_
    case h44 => (intro WX hWX; go_simp)
    go_simp
    refine wpAnyH_take (i := 45) (v := .int .i64 3) rfl (by kernel_rfl) (by kernel_rfl) (by kernel_rfl) (fun _ _ _ h => h) (Or.inl ⟨by kernel_rfl, ?h45⟩) HB9_14.out ?_
    case h45 => (intro WX hWX; obtain ⟨y0_0, y0_1, y0_2, y0_3, y0_4, y0_5, y0_6, y0_7, y0_8, y0_9, y0_10, y0_11⟩ := cells12 (HX_s.out WX (show Below W9.heap.size W9 WX from hWX)); go_simp)
    go_simp
    refine wpAnyH_take (i := 46) (v := .bool true) rfl (by kernel_rfl) (by kernel_rfl) (by kernel_rfl) (fun _ _ _ h => h) (Or.inl ⟨by kernel_rfl, ?h46⟩) HB9_14.out ?_
    case h46 => (intro WX hWX; go_simp)
    go_simp
    refine wpAnyH_take (i := 47) (v := .bool true) rfl (by kernel_rfl) (by kernel_rfl) (by kernel_rfl) (fun _ _ _ h => h) (Or.inl ⟨by kernel_rfl, ?h47⟩) HB9_14.out ?_
    case h47 => (intro WX hWX; go_simp)
    go_simp
    refine wpAnyH_take (i := 48) (v := .bool true) rfl (by kernel_rfl) (by kernel_rfl) (by kernel_rfl) (fun _ _ _ h => h) (Or.inl ⟨by kernel_rfl, ?h48⟩) HB9_14.out ?_
    case h48 => (intro WX hWX; go_simp)
    go_simp
    refine wpAnyH_take (i := 49) (v := .agg #[.int .i64 o, .int .i64 a, .int .i64 y, .int .i64 d, .int .i64 q, .int .i64 p, .int .i64 0, .int .i64 3, .int .i64 0, .int .i64 0, .int .i64 0, .bool false]) rfl (by kernel_rfl) (by kernel_rfl) (by kernel_rfl) (fun _ _ _ h => h) (Or.inl ⟨by kernel_rfl, ?h49⟩) HB9_14.out ?_
    case h49 => (intro WX hWX; obtain ⟨y0_0, y0_1, y0_2, y0_3, y0_4, y0_5, y0_6, y0_7, y0_8, y0_9, y0_10, y0_11⟩ := cells12 (HX_s.out WX (show Below W9.heap.size W9 WX from hWX)); go_simp)
    go_simp
    refine wpAnyH_ready (rs := [50]) (by kernel_rfl) (by simp) ?_
    refine AllReadyH.cons rfl (fun K hK => ?_) AllReadyH.nil
    go_simp
    go_wp2_with (refine Calls.mono (order.open_is o a y d q p 0 3 0 0 0 false HFD.out HRD.out _) ?_; rintro e15 W15 ⟨rfl, hb⟩)
    have HB0_15 : Hid (Below W0.heap.size W0 W15) := Lib.hid (HB0_14.out.trans ((hb : Below W14.heap.size W14 W15).mono HB0_14.out.size))
    have HB1_15 : Hid (Below W1.heap.size W1 W15) := Lib.hid (HB1_14.out.trans ((hb : Below W14.heap.size W14 W15).mono HB1_14.out.size))
    have HB2_15 : Hid (Below W2.heap.size W2 W15) := Lib.hid (HB2_14.out.trans ((hb : Below W14.heap.size W14 W15).mono HB2_14.out.size))
    have HB3_15 : Hid (Below W3.heap.size W3 W15) := Lib.hid (HB3_14.out.trans ((hb : Below W14.heap.size W14 W15).mono HB3_14.out.size))
    have HB4_15 : Hid (Below W4.heap.size W4 W15) := Lib.hid (HB4_14.out.trans ((hb : Below W14.heap.size W14 W15).mono HB4_14.out.size))
    have HB5_15 : Hid (Below W5.heap.size W5 W15) := Lib.hid (HB5_14.out.trans ((hb : Below W14.heap.size W14 W15).mono HB5_14.out.size))
    have HB6_15 : Hid (Below W6.heap.size W6 W15) := Lib.hid (HB6_14.out.trans ((hb : Below W14.heap.size W14 W15).mono HB6_14.out.size))
    have HB7_15 : Hid (Below W7.heap.size W7 W15) := Lib.hid (HB7_14.out.trans ((hb : Below W14.heap.size W14 W15).mono HB7_14.out.size))
    have HB8_15 : Hid (Below W8.heap.size W8 W15) := Lib.hid (HB8_14.out.trans ((hb : Below W14.heap.size W14 W15).mono HB8_14.out.size))
    have HB9_15 : Hid (Below W9.heap.size W9 W15) := Lib.hid (HB9_14.out.trans ((hb : Below W14.heap.size W14 W15).mono HB9_14.out.size))
    have HB10_15 : Hid (Below W10.heap.size W10 W15) := Lib.hid (HB10_14.out.trans ((hb : Below W14.heap.size W14 W15).mono HB10_14.out.size))
    have HB11_15 : Hid (Below W11.heap.size W11 W15) := Lib.hid (HB11_14.out.trans ((hb : Below W14.heap.size W14 W15).mono HB11_14.out.size))
    have HB12_15 : Hid (Below W12.heap.size W12 W15) := Lib.hid (HB12_14.out.trans ((hb : Below W14.heap.size W14 W15).mono HB12_14.out.size))
    have HB13_15 : Hid (Below W13.heap.size W13 W15) := Lib.hid (HB13_14.out.trans ((hb : Below W14.heap.size W14 W15).mono HB13_14.out.size))
    have HB14_15 : Hid (Below W14.heap.size W14 W15) := Lib.hid (hb)
    clear hb
    refine hK.out _ _ HB9_15.out (fun _ => ?_)
    clear hK K
    go_simp
    refine wpAnyH_take (i := 51) (v := .bool true) rfl (by kernel_rfl) (by kernel_rfl) (by kernel_rfl) (fun _ _ _ h => h) (Or.inl ⟨by kernel_rfl, ?h51⟩) HB9_15.out ?_
    case h51 => (intro WX hWX; go_simp)
    go_simp
    refine wpAnyH_take (i := 52) (v := .bool true) rfl (by kernel_rfl) (by kernel_rfl) (by kernel_rfl) (fun _ _ _ h => h) (Or.inl ⟨by kernel_rfl, ?h52⟩) HB9_15.out ?_
    case h52 => (intro WX hWX; go_simp)
    go_simp
    refine wpAnyH_take (i := 53) (v := .bool true) rfl (by kernel_rfl) (by kernel_rfl) (by kernel_rfl) (fun _ _ _ h => h) (Or.inl ⟨by kernel_rfl, ?h53⟩) HB9_15.out ?_
    case h53 => (intro WX hWX; go_simp)
    go_simp
    refine wpAnyH_done (by kernel_rfl) ?_ _
    go_wp2_with fail
    go_ret
    exact ⟨rfl, HBW.out.trans (HB0_15.out.mono HBW.out.size)⟩
  · obtain ⟨rfl, HZ, HK⟩ := herr
    have heq : ∀ W, (Op.equalIn 10000 23 (.agg #[.int .i64 i', .int .i64 a', .int .i64 y', .int .i64 d', .int .i64 q', .int .i64 p', .int .i64 f', .int .i64 ph', .int .i64 m', .int .i64 r', .int .i64 v', .bool g']) (.agg #[.int .i64 0, .int .i64 0, .int .i64 0, .int .i64 0, .int .i64 0, .int .i64 0, .int .i64 0, .int .i64 0, .int .i64 0, .int .i64 0, .int .i64 0, .bool false])).run Try.prog W = .ok true W := fun W => eq12_of rfl rfl HFO.out (by simp [Or.fine, rec.in0]) (decide_eq_true HZ) W
    rcases eq_cases k 1 with ⟨HE1, he1, hf1⟩ | ⟨HE1, he1, hf1⟩
    · have HM : Hid (rec.right ⟨k, o, a, y, d, q, p, l, s, n, on, z, t⟩ = false) := Lib.hid (by rcases HK with h | h; exact absurd HE1.out h; exact h)
      obtain ⟨k_0, k_1, k_2, k_3, k_4, k_5, k_6, k_7, k_8, k_9, k_10, k_11, k_12⟩ := cells13 (HX0.out W3 HB0_3.out)
      rw [← HW3.out] at k_0 k_1 k_2 k_3 k_4 k_5 k_6 k_7 k_8 k_9 k_10 k_11 k_12
      go_wp2_with fail
      refine Calls.mono (rec.right_is k o a y d q p l s n on z t HF.out HM.out _) ?_
      rintro e4 W4 ⟨rfl, hb⟩
      rw [HW3.out] at hb
      have HB0_4 : Hid (Below W0.heap.size W0 W4) := Lib.hid (HB0_3.out.trans ((hb : Below W3.heap.size W3 W4).mono HB0_3.out.size))
      have HB1_4 : Hid (Below W1.heap.size W1 W4) := Lib.hid (HB1_3.out.trans ((hb : Below W3.heap.size W3 W4).mono HB1_3.out.size))
      have HB2_4 : Hid (Below W2.heap.size W2 W4) := Lib.hid (HB2_3.out.trans ((hb : Below W3.heap.size W3 W4).mono HB2_3.out.size))
      have HB3_4 : Hid (Below W3.heap.size W3 W4) := Lib.hid (hb)
      clear hb
      clear k_0 k_1 k_2 k_3 k_4 k_5 k_6 k_7 k_8 k_9 k_10 k_11 k_12
      go_wp2_with fail
      go_ret
      exact ⟨rfl, HBW.out.trans (HB0_4.out.mono HBW.out.size)⟩
    · clear HK
      obtain ⟨k_0, k_1, k_2, k_3, k_4, k_5, k_6, k_7, k_8, k_9, k_10, k_11, k_12⟩ := cells13 (HX0.out W3 HB0_3.out)
      rw [← HW3.out] at k_0 k_1 k_2 k_3 k_4 k_5 k_6 k_7 k_8 k_9 k_10 k_11 k_12
      go_wp2_with fail
      go_ret
      exact ⟨rfl, by rw [HW3.out]; exact HBW.out.trans (HB0_3.out.mono HBW.out.size)⟩
  -- WALK ENDS

set_option maxRecDepth 100000 in
theorem lifted (os : Os) (started : os.Started) (H : Type) (enc : TypeId × Value → H) :
    ReturnsInHanded {} Try.checked os 7 .any (Rows.orderBeginsSpec.pre6 enc Try.prog Try.f7 Rows.orderBeginsRow.domain false) (Rows.orderBeginsSpec.post enc Try.prog Try.f7 false true false false) := by
  refine returnsInHanded_of_change (C := Try.checked) own started (by kernel_rfl) Try.func7
    (ChangeSpec.witness6 (enc := enc) (C := Try.checked) false ⟨#[], #[.agg #[.int .i64 0, .int .i64 0, .int .i64 0, .int .i64 0, .int .i64 0, .int .i64 0, .int .i64 0, .int .i64 0, .int .i64 0, .int .i64 0, .bool false, .int .i64 0, .int .i64 0]], []⟩ 8 (by kernel_rfl) (by kernel_rfl) (by kernel_rfl) (by kernel_rfl)) ?_
  intro W base args ds gs before hval0 hW hcnd _
  have hval : ∀ (j : Nat) t v, Try.f7.params[j]? = some t → args[j]? = some v → Value.okWide Try.prog W .any base t v := hval0
  have hW' := hW
  obtain ⟨p, q, hA0, hV, rfl, hfz, hnd⟩ := hW
  have hA : DataW.TrodAll enc Try.prog W 0 (fun _ => true) true Try.f7.params.toList args.toList ds p := hA0
  rw [Try.params7] at hA hval
  obtain ⟨v0, vs0, d0, ds0, p0_, q0, hargs, rfl, rfl, h0, r0⟩ := trodAll_cons hA
  obtain ⟨rfl, rfl, rfl⟩ := trodAll_nil r0
  obtain rfl : args = #[v0] := by cases args; simp_all
  obtain ⟨rfl, rfl⟩ := trodVars_none hV
  obtain ⟨cs0, rfl, hsz0⟩ := okWide_struct Try.underlying25 (hval 0 25 v0 rfl rfl)
  have k0 := h0
  have lt0 : ∀ x ∈ p0_, x.block < W.heap.size := by obtain ⟨m, hm⟩ := k0; exact DataW.trod_lt m _ _ _ hm
  obtain ⟨x0, w0⟩ := of_arg of_rec k0
  clear hA0 hval0
  refine (walk cs0 x0 W w0).mono fun e W' ⟨he, bel⟩ => ?_
  subst he
  exact ⟨_, rfl, _, _, _, [], _, [], hW', trodAll_mk1 (shut_bool Try.underlying4 _), (trodAll_cons_mk (Below.trod laidOut (by kernel_rfl) (of_decide_eq_true (by kernel_rfl)) k0 bel lt0) trodAll_mk0), rfl, bel.frame _, fun h => by cases h⟩

theorem over : Rows.orderBeginsRow.holds Try.pinned (OpenSpec.ofChange Rows.orderBeginsSpec) :=
  OpenClaim.holds_of_wide 7 Try.f7 rfl rfl rfl rfl rfl rfl rfl ⟨rfl, rfl, rfl, rfl, rfl⟩ rfl rfl rfl rfl rfl (by kernel_rfl) Try.func7 (by kernel_rfl)
    (of_decide_eq_true (by kernel_rfl)) (by unfold Func.isWrapper; first | (rw [if_pos (by decide +kernel)]; kernel_rfl) | (rw [if_neg (by decide +kernel)]; exact ⟨rfl, rfl⟩))
    (fun os started H enc _ => lifted os started H enc)

theorem proved : Rows.OrderBeginsSaid := over
#print axioms proved
end Go.Proofs.Ytfnapckjccjjjaa.orderBegins
