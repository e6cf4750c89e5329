/-
  PROVED: the law RecFields answers true at every input, and leaves what it was given as it was.
  CONDITIONS: none.
-/
import Derived.Test.YtbahlgijiglbdaaRows
import Derived.WalkKit
import Derived.ProofKit
import Derived.OpenShut
import Derived.ShutString
import Derived.ChangeOld
import Derived.Below
import Derived.Deep.RegionHeld
import Derived.Deep.DrawnRows
import Derived.Deep.DeepCutAuto
import Derived.Test.YtbahlgijiglbdaaAwake06
import Derived.Test.YtbahlgijiglbdaaApi06
namespace Go.Proofs.Ytbahlgijiglbdaa.recFields
open Go.ChangeShapes Go.WideShapes Go.ChangeAt Go.RowKit
open Go.ChangeMaps (open_string shut_string)
open Go.Proofs.Ytbahlgijiglbdaa Go.Proofs.Ytbahlgijiglbdaa.rec
attribute [local go_sem] undef
attribute [local go_sem ↓] Go.wp_at_zero Go.wp_at_succ
set_option linter.unusedVariables false

theorem own : ownKnob Try.prog.godebug = none := by kernel_rfl
theorem laidOut : laidOutB Try.prog = true := by kernel_rfl

set_option maxHeartbeats 2000000 in
set_option maxRecDepth 100000 in
theorem walk (cs0 : Array Value) (x0 : RecD) (a1 : Int) (w : World) (w0 : rdRec w (Lt w.heap.size) cs0.toList x0) (w1 : (Lit.int .i64 a1).wf = true) :
    Calls Try.prog 5 #[.agg cs0, .int .i64 a1] w fun e w' => e = .returned (.bool true) ∧ Below w.heap.size w w' := by
  -- WALK BEGINS
  obtain ⟨hc0, hf0⟩ := w0
  obtain rfl : cs0 = rec.rc x0 := by apply Array.toList_inj.1; exact hc0
  clear hc0
  obtain ⟨k, o, a, y, d, q, p, l, s, n, on, z, t⟩ := x0
  show Calls Try.prog 5 #[.agg #[.int .i64 k, .int .i64 o, .int .i64 a, .int .i64 y, .int .i64 d, .int .i64 q, .int .i64 p, .int .i64 l, .int .i64 s, .int .i64 n, .bool on, .int .i64 z, .int .i64 t], .int .i64 a1] w _
  obtain ⟨W0, HW0⟩ : ∃ W, Hid ((w.alloc (.cells #[.int .i64 k, .int .i64 o, .int .i64 a, .int .i64 y, .int .i64 d, .int .i64 q, .int .i64 p, .int .i64 l, .int .i64 s, .int .i64 n, .bool on, .int .i64 z, .int .i64 t] 23)) = W) := ⟨_, Lib.hid rfl⟩
  have HBW : Hid (Below w.heap.size w W0) := Lib.hid (by rw [← HW0.out]; exact (Below.refl _ _).alloc (by simp) _)
  have HX0 : Hid (∀ W, Below W0.heap.size W0 W → W.heap[w.heap.size]? = some (.cells #[.int .i64 k, .int .i64 o, .int .i64 a, .int .i64 y, .int .i64 d, .int .i64 q, .int .i64 p, .int .i64 l, .int .i64 s, .int .i64 n, .bool on, .int .i64 z, .int .i64 t] 23 (0, 0))) := Lib.hid (fun W hb => (hb.block _ (by rw [← HW0.out]; simp; try omega)).trans (by rw [← HW0.out]; have := heap_alloc_new w (.cells #[.int .i64 k, .int .i64 o, .int .i64 a, .int .i64 y, .int .i64 d, .int .i64 q, .int .i64 p, .int .i64 l, .int .i64 s, .int .i64 n, .bool on, .int .i64 z, .int .i64 t] 23); exact this))
  have ha : frame.inR a1 := inI_of_wf w1
  have HF := Lib.hid hf0
  have HA := Lib.hid ha
  obtain ⟨m, HM⟩ : ∃ x, Hid (right ⟨k, o, a, y, d, q, p, l, s, n, on, z, t⟩ = x) := ⟨_, Lib.hid rfl⟩
  clear ha hf0 w1
  go_enter Try.func5, Try.ntmps5
  go_wp2_with fail
  refine Calls.mono (awake_any _) ?_
  rintro e1 W1 ⟨rfl, hb⟩
  rw [HW0.out] at hb
  have HB0_1 : Hid (Below W0.heap.size W0 W1) := Lib.hid (hb)
  clear hb
  obtain ⟨p0, p1, p2, p3, p4, p5, p6, p7, p8, p9, p10, p11, p12⟩ := cells13 (HX0.out W1 HB0_1.out)
  go_wp2_with fail
  refine Calls.mono (right_is k o a y d q p l s n on z t HF.out HM.out _) ?_
  rintro e2 W2 ⟨rfl, hb⟩
  have HB0_2 : Hid (Below W0.heap.size W0 W2) := Lib.hid (HB0_1.out.trans ((hb : Below W1.heap.size W1 W2).mono HB0_1.out.size))
  have HB1_2 : Hid (Below W1.heap.size W1 W2) := Lib.hid (hb)
  clear hb
  clear p0 p1 p2 p3 p4 p5 p6 p7 p8 p9 p10 p11 p12
  rcases m with _ | _
  · go_wp2_with fail
    go_ret
    exact ⟨rfl, HBW.out.trans (HB0_2.out.mono HBW.out.size)⟩
  · by_cases hz : a1 = 0
    · subst hz
      go_wp2_with fail
      go_ret
      exact ⟨rfl, HBW.out.trans (HB0_2.out.mono HBW.out.size)⟩
    have hn : (a1 == 0) = false := by simpa using hz
    have HZ := Lib.hid hz
    have hlt : w.heap.size < W2.heap.size := by have := HB0_2.out.size; have e := HW0.out; subst e; simp at this; omega
    have hk := right_kind HM.out
    have hk : k = 1 ∨ k = 2 ∨ k = 3 ∨ k = 4 ∨ k = 5 ∨ k = 6 := by simp only at hk; omega
    have HO : Hid (0 < o ↔ ¬ (k = 4 ∨ k = 5)) := Lib.hid (fields_ordered HM.out)
    clear hz
    rcases hk with rfl | rfl | rfl | rfl | rfl | rfl
    · have ho : 0 < o := HO.out.2 (by simp)
      have HR : Hid (right ⟨1, o, a, y, d, q, p, l, s, n, on, a1, t⟩ = false) := Lib.hid (fields_seq HM.out (.inl rfl) HZ.out)
      have HF2 : Hid ((⟨1, o, a, y, d, q, p, l, s, n, on, a1, t⟩ : Rc).fine) := Lib.hid (by have h := HF.out; simp only [Rc.fine] at h ⊢; have ha := HA.out; simp only [h, ha, and_self])
      obtain ⟨p0, p1, p2, p3, p4, p5, p6, p7, p8, p9, p10, p11, p12⟩ := cells13 (HX0.out W2 HB0_2.out)
      go_wp2_with fail
      obtain ⟨W3, HW3⟩ : ∃ W, Hid ((W2.alloc (.cells #[.int .i64 1, .int .i64 o, .int .i64 a, .int .i64 y, .int .i64 d, .int .i64 q, .int .i64 p, .int .i64 l, .int .i64 s, .int .i64 n, .bool on, .int .i64 a1, .int .i64 t] 23)) = W) := ⟨_, Lib.hid rfl⟩
      have HB0_3 : Hid (Below W0.heap.size W0 W3) := Lib.hid (HB0_2.out.trans ((by rw [← HW3.out]; exact (Below.refl _ _).alloc (Nat.le_refl _) _ : Below W2.heap.size W2 W3).mono HB0_2.out.size))
      have HB1_3 : Hid (Below W1.heap.size W1 W3) := Lib.hid (HB1_2.out.trans ((by rw [← HW3.out]; exact (Below.refl _ _).alloc (Nat.le_refl _) _ : Below W2.heap.size W2 W3).mono HB1_2.out.size))
      have HB2_3 : Hid (Below W2.heap.size W2 W3) := Lib.hid (by rw [← HW3.out]; exact (Below.refl _ _).alloc (Nat.le_refl _) _)
      have HX_s : Hid (∀ W, Below W3.heap.size W3 W → W.heap[W2.heap.size]? = some (.cells #[.int .i64 1, .int .i64 o, .int .i64 a, .int .i64 y, .int .i64 d, .int .i64 q, .int .i64 p, .int .i64 l, .int .i64 s, .int .i64 n, .bool on, .int .i64 a1, .int .i64 t] 23 (0, 0))) := Lib.hid (fun W hb => (hb.block _ (by rw [← HW3.out]; simp)).trans (by rw [← HW3.out]; exact heap_alloc_new _ _))
      refine Calls.mono (right_is 1 o a y d q p l s n on a1 t HF2.out HR.out _) ?_
      rintro e4 W4 ⟨rfl, hb⟩
      rw [HW3.out] at hb
      have HB0_4 : Hid (Below W0.heap.size W0 W4) := Lib.hid (HB0_3.out.trans ((hb : Below W3.heap.size W3 W4).mono HB0_3.out.size))
      have HB1_4 : Hid (Below W1.heap.size W1 W4) := Lib.hid (HB1_3.out.trans ((hb : Below W3.heap.size W3 W4).mono HB1_3.out.size))
      have HB2_4 : Hid (Below W2.heap.size W2 W4) := Lib.hid (HB2_3.out.trans ((hb : Below W3.heap.size W3 W4).mono HB2_3.out.size))
      have HB3_4 : Hid (Below W3.heap.size W3 W4) := Lib.hid (hb)
      clear hb
      clear p0 p1 p2 p3 p4 p5 p6 p7 p8 p9 p10 p11 p12
      obtain ⟨p0, p1, p2, p3, p4, p5, p6, p7, p8, p9, p10, p11, p12⟩ := cells13 (HX0.out W4 HB0_4.out)
      go_wp2_with fail
      go_ret
      exact ⟨rec.retB (by first | rfl | (simp; omega)), HBW.out.trans (HB0_4.out.mono HBW.out.size)⟩
    · have ho : 0 < o := HO.out.2 (by simp)
      have HR : Hid (right ⟨2, o, a, y, d, q, p, l, s, n, on, a1, t⟩ = false) := Lib.hid (fields_seq HM.out (.inr (.inl rfl)) HZ.out)
      have HF2 : Hid ((⟨2, o, a, y, d, q, p, l, s, n, on, a1, t⟩ : Rc).fine) := Lib.hid (by have h := HF.out; simp only [Rc.fine] at h ⊢; have ha := HA.out; simp only [h, ha, and_self])
      obtain ⟨p0, p1, p2, p3, p4, p5, p6, p7, p8, p9, p10, p11, p12⟩ := cells13 (HX0.out W2 HB0_2.out)
      go_wp2_with fail
      obtain ⟨W3, HW3⟩ : ∃ W, Hid ((W2.alloc (.cells #[.int .i64 2, .int .i64 o, .int .i64 a, .int .i64 y, .int .i64 d, .int .i64 q, .int .i64 p, .int .i64 l, .int .i64 s, .int .i64 n, .bool on, .int .i64 a1, .int .i64 t] 23)) = W) := ⟨_, Lib.hid rfl⟩
      have HB0_3 : Hid (Below W0.heap.size W0 W3) := Lib.hid (HB0_2.out.trans ((by rw [← HW3.out]; exact (Below.refl _ _).alloc (Nat.le_refl _) _ : Below W2.heap.size W2 W3).mono HB0_2.out.size))
      have HB1_3 : Hid (Below W1.heap.size W1 W3) := Lib.hid (HB1_2.out.trans ((by rw [← HW3.out]; exact (Below.refl _ _).alloc (Nat.le_refl _) _ : Below W2.heap.size W2 W3).mono HB1_2.out.size))
      have HB2_3 : Hid (Below W2.heap.size W2 W3) := Lib.hid (by rw [← HW3.out]; exact (Below.refl _ _).alloc (Nat.le_refl _) _)
      have HX_s : Hid (∀ W, Below W3.heap.size W3 W → W.heap[W2.heap.size]? = some (.cells #[.int .i64 2, .int .i64 o, .int .i64 a, .int .i64 y, .int .i64 d, .int .i64 q, .int .i64 p, .int .i64 l, .int .i64 s, .int .i64 n, .bool on, .int .i64 a1, .int .i64 t] 23 (0, 0))) := Lib.hid (fun W hb => (hb.block _ (by rw [← HW3.out]; simp)).trans (by rw [← HW3.out]; exact heap_alloc_new _ _))
      refine Calls.mono (right_is 2 o a y d q p l s n on a1 t HF2.out HR.out _) ?_
      rintro e4 W4 ⟨rfl, hb⟩
      rw [HW3.out] at hb
      have HB0_4 : Hid (Below W0.heap.size W0 W4) := Lib.hid (HB0_3.out.trans ((hb : Below W3.heap.size W3 W4).mono HB0_3.out.size))
      have HB1_4 : Hid (Below W1.heap.size W1 W4) := Lib.hid (HB1_3.out.trans ((hb : Below W3.heap.size W3 W4).mono HB1_3.out.size))
      have HB2_4 : Hid (Below W2.heap.size W2 W4) := Lib.hid (HB2_3.out.trans ((hb : Below W3.heap.size W3 W4).mono HB2_3.out.size))
      have HB3_4 : Hid (Below W3.heap.size W3 W4) := Lib.hid (hb)
      clear hb
      clear p0 p1 p2 p3 p4 p5 p6 p7 p8 p9 p10 p11 p12
      obtain ⟨p0, p1, p2, p3, p4, p5, p6, p7, p8, p9, p10, p11, p12⟩ := cells13 (HX0.out W4 HB0_4.out)
      go_wp2_with fail
      go_ret
      exact ⟨rec.retB (by first | rfl | (simp; omega)), HBW.out.trans (HB0_4.out.mono HBW.out.size)⟩
    · have ho : 0 < o := HO.out.2 (by simp)
      have HR : Hid (right ⟨3, o, a, y, d, q, p, l, s, n, on, a1, t⟩ = false) := Lib.hid (fields_seq HM.out (.inr (.inr rfl)) HZ.out)
      have HF2 : Hid ((⟨3, o, a, y, d, q, p, l, s, n, on, a1, t⟩ : Rc).fine) := Lib.hid (by have h := HF.out; simp only [Rc.fine] at h ⊢; have ha := HA.out; simp only [h, ha, and_self])
      obtain ⟨p0, p1, p2, p3, p4, p5, p6, p7, p8, p9, p10, p11, p12⟩ := cells13 (HX0.out W2 HB0_2.out)
      go_wp2_with fail
      obtain ⟨W3, HW3⟩ : ∃ W, Hid ((W2.alloc (.cells #[.int .i64 3, .int .i64 o, .int .i64 a, .int .i64 y, .int .i64 d, .int .i64 q, .int .i64 p, .int .i64 l, .int .i64 s, .int .i64 n, .bool on, .int .i64 a1, .int .i64 t] 23)) = W) := ⟨_, Lib.hid rfl⟩
      have HB0_3 : Hid (Below W0.heap.size W0 W3) := Lib.hid (HB0_2.out.trans ((by rw [← HW3.out]; exact (Below.refl _ _).alloc (Nat.le_refl _) _ : Below W2.heap.size W2 W3).mono HB0_2.out.size))
      have HB1_3 : Hid (Below W1.heap.size W1 W3) := Lib.hid (HB1_2.out.trans ((by rw [← HW3.out]; exact (Below.refl _ _).alloc (Nat.le_refl _) _ : Below W2.heap.size W2 W3).mono HB1_2.out.size))
      have HB2_3 : Hid (Below W2.heap.size W2 W3) := Lib.hid (by rw [← HW3.out]; exact (Below.refl _ _).alloc (Nat.le_refl _) _)
      have HX_s : Hid (∀ W, Below W3.heap.size W3 W → W.heap[W2.heap.size]? = some (.cells #[.int .i64 3, .int .i64 o, .int .i64 a, .int .i64 y, .int .i64 d, .int .i64 q, .int .i64 p, .int .i64 l, .int .i64 s, .int .i64 n, .bool on, .int .i64 a1, .int .i64 t] 23 (0, 0))) := Lib.hid (fun W hb => (hb.block _ (by rw [← HW3.out]; simp)).trans (by rw [← HW3.out]; exact heap_alloc_new _ _))
      refine Calls.mono (right_is 3 o a y d q p l s n on a1 t HF2.out HR.out _) ?_
      rintro e4 W4 ⟨rfl, hb⟩
      rw [HW3.out] at hb
      have HB0_4 : Hid (Below W0.heap.size W0 W4) := Lib.hid (HB0_3.out.trans ((hb : Below W3.heap.size W3 W4).mono HB0_3.out.size))
      have HB1_4 : Hid (Below W1.heap.size W1 W4) := Lib.hid (HB1_3.out.trans ((hb : Below W3.heap.size W3 W4).mono HB1_3.out.size))
      have HB2_4 : Hid (Below W2.heap.size W2 W4) := Lib.hid (HB2_3.out.trans ((hb : Below W3.heap.size W3 W4).mono HB2_3.out.size))
      have HB3_4 : Hid (Below W3.heap.size W3 W4) := Lib.hid (hb)
      clear hb
      clear p0 p1 p2 p3 p4 p5 p6 p7 p8 p9 p10 p11 p12
      obtain ⟨p0, p1, p2, p3, p4, p5, p6, p7, p8, p9, p10, p11, p12⟩ := cells13 (HX0.out W4 HB0_4.out)
      go_wp2_with fail
      go_ret
      exact ⟨rec.retB (by first | rfl | (simp; omega)), HBW.out.trans (HB0_4.out.mono HBW.out.size)⟩
    · have ho : o ≤ 0 := by have := mt HO.out.1 (by simp); omega
      have HR : Hid (right ⟨4, a1, a, y, d, q, p, l, s, n, on, z, t⟩ = false) := Lib.hid (fields_order HM.out rfl HZ.out)
      have HF2 : Hid ((⟨4, a1, a, y, d, q, p, l, s, n, on, z, t⟩ : Rc).fine) := Lib.hid (by have h := HF.out; simp only [Rc.fine] at h ⊢; have ha := HA.out; simp only [h, ha, and_self])
      obtain ⟨p0, p1, p2, p3, p4, p5, p6, p7, p8, p9, p10, p11, p12⟩ := cells13 (HX0.out W2 HB0_2.out)
      go_wp2_with fail
      obtain ⟨W3, HW3⟩ : ∃ W, Hid ((W2.alloc (.cells #[.int .i64 4, .int .i64 a1, .int .i64 a, .int .i64 y, .int .i64 d, .int .i64 q, .int .i64 p, .int .i64 l, .int .i64 s, .int .i64 n, .bool on, .int .i64 z, .int .i64 t] 23)) = W) := ⟨_, Lib.hid rfl⟩
      have HB0_3 : Hid (Below W0.heap.size W0 W3) := Lib.hid (HB0_2.out.trans ((by rw [← HW3.out]; exact (Below.refl _ _).alloc (Nat.le_refl _) _ : Below W2.heap.size W2 W3).mono HB0_2.out.size))
      have HB1_3 : Hid (Below W1.heap.size W1 W3) := Lib.hid (HB1_2.out.trans ((by rw [← HW3.out]; exact (Below.refl _ _).alloc (Nat.le_refl _) _ : Below W2.heap.size W2 W3).mono HB1_2.out.size))
      have HB2_3 : Hid (Below W2.heap.size W2 W3) := Lib.hid (by rw [← HW3.out]; exact (Below.refl _ _).alloc (Nat.le_refl _) _)
      have HX_s : Hid (∀ W, Below W3.heap.size W3 W → W.heap[W2.heap.size]? = some (.cells #[.int .i64 4, .int .i64 a1, .int .i64 a, .int .i64 y, .int .i64 d, .int .i64 q, .int .i64 p, .int .i64 l, .int .i64 s, .int .i64 n, .bool on, .int .i64 z, .int .i64 t] 23 (0, 0))) := Lib.hid (fun W hb => (hb.block _ (by rw [← HW3.out]; simp)).trans (by rw [← HW3.out]; exact heap_alloc_new _ _))
      refine Calls.mono (right_is 4 a1 a y d q p l s n on z t HF2.out HR.out _) ?_
      rintro e4 W4 ⟨rfl, hb⟩
      rw [HW3.out] at hb
      have HB0_4 : Hid (Below W0.heap.size W0 W4) := Lib.hid (HB0_3.out.trans ((hb : Below W3.heap.size W3 W4).mono HB0_3.out.size))
      have HB1_4 : Hid (Below W1.heap.size W1 W4) := Lib.hid (HB1_3.out.trans ((hb : Below W3.heap.size W3 W4).mono HB1_3.out.size))
      have HB2_4 : Hid (Below W2.heap.size W2 W4) := Lib.hid (HB2_3.out.trans ((hb : Below W3.heap.size W3 W4).mono HB2_3.out.size))
      have HB3_4 : Hid (Below W3.heap.size W3 W4) := Lib.hid (hb)
      clear hb
      clear p0 p1 p2 p3 p4 p5 p6 p7 p8 p9 p10 p11 p12
      obtain ⟨p0, p1, p2, p3, p4, p5, p6, p7, p8, p9, p10, p11, p12⟩ := cells13 (HX0.out W4 HB0_4.out)
      go_wp2_with fail
      go_ret
      exact ⟨rec.retB (by first | rfl | (simp; omega)), HBW.out.trans (HB0_4.out.mono HBW.out.size)⟩
    · have ho : o ≤ 0 := by have := mt HO.out.1 (by simp); omega
      have HR : Hid (right ⟨5, o, a, y, d, a1, p, l, s, n, on, z, t⟩ = false) := Lib.hid (fields_qty HM.out rfl HZ.out)
      have HF2 : Hid ((⟨5, o, a, y, d, a1, p, l, s, n, on, z, t⟩ : Rc).fine) := Lib.hid (by have h := HF.out; simp only [Rc.fine] at h ⊢; have ha := HA.out; simp only [h, ha, and_self])
      obtain ⟨p0, p1, p2, p3, p4, p5, p6, p7, p8, p9, p10, p11, p12⟩ := cells13 (HX0.out W2 HB0_2.out)
      go_wp2_with fail
      obtain ⟨W3, HW3⟩ : ∃ W, Hid ((W2.alloc (.cells #[.int .i64 5, .int .i64 o, .int .i64 a, .int .i64 y, .int .i64 d, .int .i64 a1, .int .i64 p, .int .i64 l, .int .i64 s, .int .i64 n, .bool on, .int .i64 z, .int .i64 t] 23)) = W) := ⟨_, Lib.hid rfl⟩
      have HB0_3 : Hid (Below W0.heap.size W0 W3) := Lib.hid (HB0_2.out.trans ((by rw [← HW3.out]; exact (Below.refl _ _).alloc (Nat.le_refl _) _ : Below W2.heap.size W2 W3).mono HB0_2.out.size))
      have HB1_3 : Hid (Below W1.heap.size W1 W3) := Lib.hid (HB1_2.out.trans ((by rw [← HW3.out]; exact (Below.refl _ _).alloc (Nat.le_refl _) _ : Below W2.heap.size W2 W3).mono HB1_2.out.size))
      have HB2_3 : Hid (Below W2.heap.size W2 W3) := Lib.hid (by rw [← HW3.out]; exact (Below.refl _ _).alloc (Nat.le_refl _) _)
      have HX_s : Hid (∀ W, Below W3.heap.size W3 W → W.heap[W2.heap.size]? = some (.cells #[.int .i64 5, .int .i64 o, .int .i64 a, .int .i64 y, .int .i64 d, .int .i64 a1, .int .i64 p, .int .i64 l, .int .i64 s, .int .i64 n, .bool on, .int .i64 z, .int .i64 t] 23 (0, 0))) := Lib.hid (fun W hb => (hb.block _ (by rw [← HW3.out]; simp)).trans (by rw [← HW3.out]; exact heap_alloc_new _ _))
      refine Calls.mono (right_is 5 o a y d a1 p l s n on z t HF2.out HR.out _) ?_
      rintro e4 W4 ⟨rfl, hb⟩
      rw [HW3.out] at hb
      have HB0_4 : Hid (Below W0.heap.size W0 W4) := Lib.hid (HB0_3.out.trans ((hb : Below W3.heap.size W3 W4).mono HB0_3.out.size))
      have HB1_4 : Hid (Below W1.heap.size W1 W4) := Lib.hid (HB1_3.out.trans ((hb : Below W3.heap.size W3 W4).mono HB1_3.out.size))
      have HB2_4 : Hid (Below W2.heap.size W2 W4) := Lib.hid (HB2_3.out.trans ((hb : Below W3.heap.size W3 W4).mono HB2_3.out.size))
      have HB3_4 : Hid (Below W3.heap.size W3 W4) := Lib.hid (hb)
      clear hb
      clear p0 p1 p2 p3 p4 p5 p6 p7 p8 p9 p10 p11 p12
      obtain ⟨p0, p1, p2, p3, p4, p5, p6, p7, p8, p9, p10, p11, p12⟩ := cells13 (HX0.out W4 HB0_4.out)
      go_wp2_with fail
      go_ret
      exact ⟨rec.retB (by first | rfl | (simp; omega)), HBW.out.trans (HB0_4.out.mono HBW.out.size)⟩
    · have ho : 0 < o := HO.out.2 (by simp)
      have HR : Hid (right ⟨6, o, a, y, d, q, p, a1, s, n, on, z, t⟩ = false) := Lib.hid (fields_long HM.out rfl HZ.out)
      have HF2 : Hid ((⟨6, o, a, y, d, q, p, a1, s, n, on, z, t⟩ : Rc).fine) := Lib.hid (by have h := HF.out; simp only [Rc.fine] at h ⊢; have ha := HA.out; simp only [h, ha, and_self])
      obtain ⟨p0, p1, p2, p3, p4, p5, p6, p7, p8, p9, p10, p11, p12⟩ := cells13 (HX0.out W2 HB0_2.out)
      go_wp2_with fail
      obtain ⟨W3, HW3⟩ : ∃ W, Hid ((W2.alloc (.cells #[.int .i64 6, .int .i64 o, .int .i64 a, .int .i64 y, .int .i64 d, .int .i64 q, .int .i64 p, .int .i64 a1, .int .i64 s, .int .i64 n, .bool on, .int .i64 z, .int .i64 t] 23)) = W) := ⟨_, Lib.hid rfl⟩
      have HB0_3 : Hid (Below W0.heap.size W0 W3) := Lib.hid (HB0_2.out.trans ((by rw [← HW3.out]; exact (Below.refl _ _).alloc (Nat.le_refl _) _ : Below W2.heap.size W2 W3).mono HB0_2.out.size))
      have HB1_3 : Hid (Below W1.heap.size W1 W3) := Lib.hid (HB1_2.out.trans ((by rw [← HW3.out]; exact (Below.refl _ _).alloc (Nat.le_refl _) _ : Below W2.heap.size W2 W3).mono HB1_2.out.size))
      have HB2_3 : Hid (Below W2.heap.size W2 W3) := Lib.hid (by rw [← HW3.out]; exact (Below.refl _ _).alloc (Nat.le_refl _) _)
      have HX_s : Hid (∀ W, Below W3.heap.size W3 W → W.heap[W2.heap.size]? = some (.cells #[.int .i64 6, .int .i64 o, .int .i64 a, .int .i64 y, .int .i64 d, .int .i64 q, .int .i64 p, .int .i64 a1, .int .i64 s, .int .i64 n, .bool on, .int .i64 z, .int .i64 t] 23 (0, 0))) := Lib.hid (fun W hb => (hb.block _ (by rw [← HW3.out]; simp)).trans (by rw [← HW3.out]; exact heap_alloc_new _ _))
      refine Calls.mono (right_is 6 o a y d q p a1 s n on z t HF2.out HR.out _) ?_
      rintro e4 W4 ⟨rfl, hb⟩
      rw [HW3.out] at hb
      have HB0_4 : Hid (Below W0.heap.size W0 W4) := Lib.hid (HB0_3.out.trans ((hb : Below W3.heap.size W3 W4).mono HB0_3.out.size))
      have HB1_4 : Hid (Below W1.heap.size W1 W4) := Lib.hid (HB1_3.out.trans ((hb : Below W3.heap.size W3 W4).mono HB1_3.out.size))
      have HB2_4 : Hid (Below W2.heap.size W2 W4) := Lib.hid (HB2_3.out.trans ((hb : Below W3.heap.size W3 W4).mono HB2_3.out.size))
      have HB3_4 : Hid (Below W3.heap.size W3 W4) := Lib.hid (hb)
      clear hb
      clear p0 p1 p2 p3 p4 p5 p6 p7 p8 p9 p10 p11 p12
      obtain ⟨p0, p1, p2, p3, p4, p5, p6, p7, p8, p9, p10, p11, p12⟩ := cells13 (HX0.out W4 HB0_4.out)
      go_wp2_with fail
      go_ret
      exact ⟨rec.retB (by first | rfl | (simp; omega)), HBW.out.trans (HB0_4.out.mono HBW.out.size)⟩
  -- WALK ENDS

set_option maxRecDepth 100000 in
theorem lifted (os : Os) (started : os.Started) (H : Type) (enc : TypeId × Value → H) :
    ReturnsInHanded {} Try.checked os 5 .any (Rows.recFieldsSpec.pre6 enc Try.prog Try.f5 Rows.recFieldsRow.domain false) (Rows.recFieldsSpec.post enc Try.prog Try.f5 false true false false) := by
  refine returnsInHanded_of_change (C := Try.checked) own started (by kernel_rfl) Try.func5
    (ChangeSpec.witness6 (enc := enc) (C := Try.checked) false ⟨#[], #[.agg #[.int .i64 0, .int .i64 0, .int .i64 0, .int .i64 0, .int .i64 0, .int .i64 0, .int .i64 0, .int .i64 0, .int .i64 0, .int .i64 0, .bool false, .int .i64 0, .int .i64 0], .int .i64 0], []⟩ 8 (by kernel_rfl) (by kernel_rfl) (by kernel_rfl) (by kernel_rfl)) ?_
  intro W base args ds gs before hval0 hW hcnd _
  have hval : ∀ (j : Nat) t v, Try.f5.params[j]? = some t → args[j]? = some v → Value.okWide Try.prog W .any base t v := hval0
  have hW' := hW
  obtain ⟨p, q, hA0, hV, rfl, hfz, hnd⟩ := hW
  have hA : DataW.TrodAll enc Try.prog W 0 (fun _ => true) true Try.f5.params.toList args.toList ds p := hA0
  rw [Try.params5] at hA hval
  obtain ⟨v0, vs0, d0, ds0, p0_, q0, hargs, rfl, rfl, h0, r0⟩ := trodAll_cons hA
  obtain ⟨v1, vs1, d1, ds1, p1_, q1, rfl, rfl, rfl, h1, r1⟩ := trodAll_cons r0
  obtain ⟨rfl, rfl, rfl⟩ := trodAll_nil r1
  obtain rfl : args = #[v0, v1] := by cases args; simp_all
  obtain ⟨rfl, rfl⟩ := trodVars_none hV
  obtain ⟨cs0, rfl, hsz0⟩ := okWide_struct Try.underlying23 (hval 0 23 v0 rfl rfl)
  have k0 := h0
  have lt0 : ∀ x ∈ p0_, x.block < W.heap.size := by obtain ⟨m, hm⟩ := k0; exact DataW.trod_lt m _ _ _ hm
  obtain ⟨x0, w0⟩ := of_arg of_rec k0
  obtain ⟨a1, rfl, rfl, rfl, w1⟩ := open_int Try.underlying2 (hval 1 2 v1 rfl rfl) h1
  clear hA0 hval0
  refine (walk cs0 x0 a1 W w0 w1).mono fun e W' ⟨he, bel⟩ => ?_
  subst he
  exact ⟨_, rfl, _, _, _, [], _, [], hW', trodAll_mk1 (shut_bool Try.underlying4 _), (trodAll_cons_mk (Below.trod laidOut (by kernel_rfl) (of_decide_eq_true (by kernel_rfl)) k0 bel lt0) (trodAll_cons_mk (shut_int Try.underlying2 w1) trodAll_mk0)), rfl, bel.frame _, fun h => by cases h⟩

theorem over : Rows.recFieldsRow.holds Try.pinned (OpenSpec.ofChange Rows.recFieldsSpec) :=
  OpenClaim.holds_of_wide 5 Try.f5 rfl rfl rfl rfl rfl rfl rfl ⟨rfl, rfl, rfl, rfl, rfl⟩ rfl rfl rfl rfl rfl (by kernel_rfl) Try.func5 (by kernel_rfl)
    (of_decide_eq_true (by kernel_rfl)) (by unfold Func.isWrapper; first | (rw [if_pos (by decide +kernel)]; kernel_rfl) | (rw [if_neg (by decide +kernel)]; exact ⟨rfl, rfl⟩))
    (fun os started H enc _ => lifted os started H enc)

theorem proved : Rows.RecFieldsSaid := over
#print axioms proved
end Go.Proofs.Ytbahlgijiglbdaa.recFields
