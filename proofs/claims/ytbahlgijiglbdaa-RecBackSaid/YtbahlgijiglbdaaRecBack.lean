/-
  PROVED: the law RecBack answers true at every input, and leaves what it was given as it was.
  CONDITIONS: none.
-/
import Derived.Test.YtbahlgijiglbdaaRows
import Derived.WalkKit
import Derived.ProofKit
import Derived.OpenShut
import Derived.ShutString
import Derived.ChangeOld
import Derived.Below
import Derived.Test.YtbahlgijiglbdaaFrameImpl4
import Derived.Deep.RegionHeld
import Derived.Deep.DrawnRows
import Derived.Deep.DeepCutAuto
import Derived.Test.YtbahlgijiglbdaaAwake06
import Derived.Test.YtbahlgijiglbdaaApi06
namespace Go.Proofs.Ytbahlgijiglbdaa.recBack
open Go.ChangeShapes Go.WideShapes Go.ChangeAt Go.RowKit
open Go.ChangeMaps (open_string shut_string)
open Go.Proofs.Ytbahlgijiglbdaa Go.Proofs.Ytbahlgijiglbdaa.rec
attribute [local go_sem] undef
attribute [local go_sem ↓] Go.wp_at_zero Go.wp_at_succ
set_option linter.unusedVariables false

theorem own : ownKnob Try.prog.godebug = none := by kernel_rfl
theorem laidOut : laidOutB Try.prog = true := by kernel_rfl

set_option maxHeartbeats 4000000 in
set_option maxRecDepth 100000 in
theorem walk (cs0 : Array Value) (x0 : RecD) (cs1 : Array Value) (x1 : RecD) (a2 : Int) (cs3 : Array Value) (x3 : List (Int)) (w : World) (w0 : rdRec w (Lt w.heap.size) cs0.toList x0) (w1 : rdRec w (Lt w.heap.size) cs1.toList x1) (w2 : (Lit.int .i64 a2).wf = true) (w3 : (rdArr (rdInt .i64) 6 1) w (Lt w.heap.size) cs3.toList x3) :
    Calls Try.prog 4 #[.agg cs0, .agg cs1, .int .i64 a2, .agg cs3] w fun e w' => e = .returned (.bool true) ∧ Below w.heap.size w w' := by
  -- WALK BEGINS
  obtain ⟨hc0, hf0⟩ := w0
  obtain rfl : cs0 = rec.rc x0 := by apply Array.toList_inj.1; exact hc0
  clear hc0
  obtain ⟨k, o, a, y, d, q, p, l, s, n, on, z, t⟩ := x0
  obtain ⟨hc1, hf1⟩ := w1
  obtain rfl : cs1 = rec.rc x1 := by apply Array.toList_inj.1; exact hc1
  clear hc1
  obtain ⟨kS, oS, aS, yS, dS, qS, pS, lS, sS, nS, onS, zS, tS⟩ := x1
  obtain ⟨bs, hc3, hf3⟩ := six_of w3
  obtain rfl : cs3 = rec.nc bs := by apply Array.toList_inj.1; exact hc3
  clear hc3 w3
  obtain ⟨b0, b1, b2, b3, b4, b5⟩ := bs
  have hk2 : frame.inR a2 := inI_of_wf w2
  show Calls Try.prog 4 #[.agg #[.int .i64 k, .int .i64 o, .int .i64 a, .int .i64 y, .int .i64 d, .int .i64 q, .int .i64 p, .int .i64 l, .int .i64 s, .int .i64 n, .bool on, .int .i64 z, .int .i64 t], .agg #[.int .i64 kS, .int .i64 oS, .int .i64 aS, .int .i64 yS, .int .i64 dS, .int .i64 qS, .int .i64 pS, .int .i64 lS, .int .i64 sS, .int .i64 nS, .bool onS, .int .i64 zS, .int .i64 tS], .int .i64 a2, .agg #[.int .i64 b0, .int .i64 b1, .int .i64 b2, .int .i64 b3, .int .i64 b4, .int .i64 b5]] w _
  obtain ⟨W0, HW0⟩ : ∃ W, Hid ((((w.alloc (.cells #[.int .i64 k, .int .i64 o, .int .i64 a, .int .i64 y, .int .i64 d, .int .i64 q, .int .i64 p, .int .i64 l, .int .i64 s, .int .i64 n, .bool on, .int .i64 z, .int .i64 t] 23)).alloc (.cells #[.int .i64 kS, .int .i64 oS, .int .i64 aS, .int .i64 yS, .int .i64 dS, .int .i64 qS, .int .i64 pS, .int .i64 lS, .int .i64 sS, .int .i64 nS, .bool onS, .int .i64 zS, .int .i64 tS] 23)).alloc (.cells #[.int .i64 b0, .int .i64 b1, .int .i64 b2, .int .i64 b3, .int .i64 b4, .int .i64 b5] 24)) = W) := ⟨_, Lib.hid rfl⟩
  have HBW : Hid (Below w.heap.size w W0) := Lib.hid (by rw [← HW0.out]; exact (((Below.refl _ _).alloc (by simp) _).alloc (by simp; try omega) _).alloc (by simp; try omega) _)
  have HX0 : Hid (∀ W, Below W0.heap.size W0 W → W.heap[w.heap.size]? = some (.cells #[.int .i64 k, .int .i64 o, .int .i64 a, .int .i64 y, .int .i64 d, .int .i64 q, .int .i64 p, .int .i64 l, .int .i64 s, .int .i64 n, .bool on, .int .i64 z, .int .i64 t] 23 (0, 0))) := Lib.hid (fun W hb => (hb.block _ (by rw [← HW0.out]; simp; try omega)).trans (by rw [← HW0.out]; refine (Below.heap_alloc _ _ _ (by simp; try omega)).trans ?_; refine (Below.heap_alloc _ _ _ (by simp; try omega)).trans ?_; have := heap_alloc_new w (.cells #[.int .i64 k, .int .i64 o, .int .i64 a, .int .i64 y, .int .i64 d, .int .i64 q, .int .i64 p, .int .i64 l, .int .i64 s, .int .i64 n, .bool on, .int .i64 z, .int .i64 t] 23); exact this))
  have HX1 : Hid (∀ W, Below W0.heap.size W0 W → W.heap[w.heap.size + 1]? = some (.cells #[.int .i64 kS, .int .i64 oS, .int .i64 aS, .int .i64 yS, .int .i64 dS, .int .i64 qS, .int .i64 pS, .int .i64 lS, .int .i64 sS, .int .i64 nS, .bool onS, .int .i64 zS, .int .i64 tS] 23 (0, 0))) := Lib.hid (fun W hb => (hb.block _ (by rw [← HW0.out]; simp; try omega)).trans (by rw [← HW0.out]; refine (Below.heap_alloc _ _ _ (by simp; try omega)).trans ?_; have := heap_alloc_new (w.alloc (.cells #[.int .i64 k, .int .i64 o, .int .i64 a, .int .i64 y, .int .i64 d, .int .i64 q, .int .i64 p, .int .i64 l, .int .i64 s, .int .i64 n, .bool on, .int .i64 z, .int .i64 t] 23)) (.cells #[.int .i64 kS, .int .i64 oS, .int .i64 aS, .int .i64 yS, .int .i64 dS, .int .i64 qS, .int .i64 pS, .int .i64 lS, .int .i64 sS, .int .i64 nS, .bool onS, .int .i64 zS, .int .i64 tS] 23); simp only [World.size_alloc] at this; exact this))
  have HX2 : Hid (∀ W, Below W0.heap.size W0 W → W.heap[w.heap.size + 1 + 1]? = some (.cells #[.int .i64 b0, .int .i64 b1, .int .i64 b2, .int .i64 b3, .int .i64 b4, .int .i64 b5] 24 (0, 0))) := Lib.hid (fun W hb => (hb.block _ (by rw [← HW0.out]; simp; try omega)).trans (by rw [← HW0.out]; have := heap_alloc_new ((w.alloc (.cells #[.int .i64 k, .int .i64 o, .int .i64 a, .int .i64 y, .int .i64 d, .int .i64 q, .int .i64 p, .int .i64 l, .int .i64 s, .int .i64 n, .bool on, .int .i64 z, .int .i64 t] 23)).alloc (.cells #[.int .i64 kS, .int .i64 oS, .int .i64 aS, .int .i64 yS, .int .i64 dS, .int .i64 qS, .int .i64 pS, .int .i64 lS, .int .i64 sS, .int .i64 nS, .bool onS, .int .i64 zS, .int .i64 tS] 23)) (.cells #[.int .i64 b0, .int .i64 b1, .int .i64 b2, .int .i64 b3, .int .i64 b4, .int .i64 b5] 24); simp only [World.size_alloc] at this; exact this))
  have HF1 := Lib.hid hf0
  have HF2 := Lib.hid hf1
  have HF6 := Lib.hid hf3
  have HK2 := Lib.hid hk2
  obtain ⟨⟨⟨kT, oT, aT, yT, dT, qT, pT, lT, sT, nT, onT, zT, tT⟩, ee⟩, hu⟩ : ∃ x, unp a2 ⟨b0, b1, b2, b3, b4, b5⟩ = x := ⟨_, rfl⟩
  have HU := Lib.hid hu
  have HF3 : Hid ((⟨kT, oT, aT, yT, dT, qT, pT, lT, sT, nT, onT, zT, tT⟩ : Rc).fine) := Lib.hid (by have := unp_fine hk2 hf3; rw [hu] at this; exact this)
  have HE : Hid (ee = 0 ∨ ee = 2) := Lib.hid (by rcases unp_no hu with h | h; exact .inl h; exact .inr h.1)
  have HT : Hid (ee = 0 → right ⟨kT, oT, aT, yT, dT, qT, pT, lT, sT, nT, onT, zT, tT⟩ = true ∧ nums ⟨kT, oT, aT, yT, dT, qT, pT, lT, sT, nT, onT, zT, tT⟩ = ⟨b0, b1, b2, b3, b4, b5⟩ ∧ kT = a2) := Lib.hid (fun h => unp_ok (h ▸ hu))
  obtain ⟨m1, HM1⟩ : ∃ x, Hid (right ⟨k, o, a, y, d, q, p, l, s, n, on, z, t⟩ = x) := ⟨_, Lib.hid rfl⟩
  obtain ⟨m2, HM2⟩ : ∃ x, Hid (right ⟨kS, oS, aS, yS, dS, qS, pS, lS, sS, nS, onS, zS, tS⟩ = x) := ⟨_, Lib.hid rfl⟩
  obtain ⟨xs, hx⟩ : ∃ x, nums ⟨k, o, a, y, d, q, p, l, s, n, on, z, t⟩ = x := ⟨_, rfl⟩
  obtain ⟨x0, x1, x2, x3, x4, x5⟩ := xs
  obtain ⟨ys, hy⟩ : ∃ x, nums ⟨kS, oS, aS, yS, dS, qS, pS, lS, sS, nS, onS, zS, tS⟩ = x := ⟨_, rfl⟩
  obtain ⟨y0, y1, y2, y3, y4, y5⟩ := ys
  have HN1 := Lib.hid hx
  have HN2 := Lib.hid hy
  have HFX : Hid ((⟨x0, x1, x2, x3, x4, x5⟩ : Ns).fine) := Lib.hid (by rw [← hx]; exact nums_fine hf0)
  have HFY : Hid ((⟨y0, y1, y2, y3, y4, y5⟩ : Ns).fine) := Lib.hid (by rw [← hy]; exact nums_fine hf1)
  clear hf0 hf1 hf3 hk2 hu hx hy w2
  go_enter Try.func4, Try.ntmps4
  go_wp2_with fail
  refine Calls.mono (awake_any _) ?_
  rintro e1 W1 ⟨rfl, hb⟩
  rw [HW0.out] at hb
  have HB0_1 : Hid (Below W0.heap.size W0 W1) := Lib.hid (hb)
  clear hb
  obtain ⟨q0, q1, q2, q3, q4, q5⟩ := cells6 (HX2.out W1 HB0_1.out)
  go_wp2_with fail
  refine Calls.mono (unp_is a2 b0 b1 b2 b3 b4 b5 HK2.out HF6.out HU.out _) ?_
  rintro e2 W2 ⟨rfl, hb⟩
  have HB0_2 : Hid (Below W0.heap.size W0 W2) := Lib.hid (HB0_1.out.trans ((hb : Below W1.heap.size W1 W2).mono HB0_1.out.size))
  have HB1_2 : Hid (Below W1.heap.size W1 W2) := Lib.hid (hb)
  clear hb
  clear q0 q1 q2 q3 q4 q5
  obtain ⟨W3, HW3⟩ : ∃ W, Hid ((W2.alloc (.cells #[.int .i64 kT, .int .i64 oT, .int .i64 aT, .int .i64 yT, .int .i64 dT, .int .i64 qT, .int .i64 pT, .int .i64 lT, .int .i64 sT, .int .i64 nT, .bool onT, .int .i64 zT, .int .i64 tT] 23)) = W) := ⟨_, Lib.hid rfl⟩
  have HB0_3 : Hid (Below W0.heap.size W0 W3) := Lib.hid (HB0_2.out.trans ((by rw [← HW3.out]; exact (Below.refl _ _).alloc (Nat.le_refl _) _ : Below W2.heap.size W2 W3).mono HB0_2.out.size))
  have HB1_3 : Hid (Below W1.heap.size W1 W3) := Lib.hid (HB1_2.out.trans ((by rw [← HW3.out]; exact (Below.refl _ _).alloc (Nat.le_refl _) _ : Below W2.heap.size W2 W3).mono HB1_2.out.size))
  have HB2_3 : Hid (Below W2.heap.size W2 W3) := Lib.hid (by rw [← HW3.out]; exact (Below.refl _ _).alloc (Nat.le_refl _) _)
  have HX_t : Hid (∀ W, Below W3.heap.size W3 W → W.heap[W2.heap.size]? = some (.cells #[.int .i64 kT, .int .i64 oT, .int .i64 aT, .int .i64 yT, .int .i64 dT, .int .i64 qT, .int .i64 pT, .int .i64 lT, .int .i64 sT, .int .i64 nT, .bool onT, .int .i64 zT, .int .i64 tT] 23 (0, 0))) := Lib.hid (fun W hb => (hb.block _ (by rw [← HW3.out]; simp)).trans (by rw [← HW3.out]; exact heap_alloc_new _ _))
  go_upto_if 36 with fail
  go_cut [8] (fun s8 wx => s8 = .bool false ∧ Below W0.heap.size W0 wx)
  case first =>
    rcases HE.out with rfl | rfl
    · obtain ⟨ht1, ht2, ht3⟩ := HT.out rfl
      obtain rfl : kT = a2 := ht3
      have HR3 := Lib.hid ht1
      have HP3 : Hid (pack ⟨kT, oT, aT, yT, dT, qT, pT, lT, sT, nT, onT, zT, tT⟩ = (⟨b0, b1, b2, b3, b4, b5⟩, 0)) := Lib.hid (by unfold pack; rw [if_pos ht1, ht2])
      clear ht1 ht2
      have heq6 : ∀ W, (Op.equalIn 10000 24 (.agg #[.int .i64 b0, .int .i64 b1, .int .i64 b2, .int .i64 b3, .int .i64 b4, .int .i64 b5]) (.agg #[.int .i64 b0, .int .i64 b1, .int .i64 b2, .int .i64 b3, .int .i64 b4, .int .i64 b5])).run Try.prog W = .ok true W := fun W => eq6_of rfl rfl HF6.out HF6.out (decide_eq_true rfl) W
      go_wp2_with fail
      refine Calls.mono (pack_is kT oT aT yT dT qT pT lT sT nT onT zT tT HF3.out HP3.out _) ?_
      rintro e4 W4 ⟨rfl, hb⟩
      rw [HW3.out] at hb
      have HB0_4 : Hid (Below W0.heap.size W0 W4) := Lib.hid (HB0_3.out.trans ((hb : Below W3.heap.size W3 W4).mono HB0_3.out.size))
      have HB1_4 : Hid (Below W1.heap.size W1 W4) := Lib.hid (HB1_3.out.trans ((hb : Below W3.heap.size W3 W4).mono HB1_3.out.size))
      have HB2_4 : Hid (Below W2.heap.size W2 W4) := Lib.hid (HB2_3.out.trans ((hb : Below W3.heap.size W3 W4).mono HB2_3.out.size))
      have HB3_4 : Hid (Below W3.heap.size W3 W4) := Lib.hid (hb)
      clear hb
      obtain ⟨W5, HW5⟩ : ∃ W, Hid ((W4.alloc (.cells #[.int .i64 b0, .int .i64 b1, .int .i64 b2, .int .i64 b3, .int .i64 b4, .int .i64 b5] 24)) = W) := ⟨_, Lib.hid rfl⟩
      have HB0_5 : Hid (Below W0.heap.size W0 W5) := Lib.hid (HB0_4.out.trans ((by rw [← HW5.out]; exact (Below.refl _ _).alloc (Nat.le_refl _) _ : Below W4.heap.size W4 W5).mono HB0_4.out.size))
      have HB1_5 : Hid (Below W1.heap.size W1 W5) := Lib.hid (HB1_4.out.trans ((by rw [← HW5.out]; exact (Below.refl _ _).alloc (Nat.le_refl _) _ : Below W4.heap.size W4 W5).mono HB1_4.out.size))
      have HB2_5 : Hid (Below W2.heap.size W2 W5) := Lib.hid (HB2_4.out.trans ((by rw [← HW5.out]; exact (Below.refl _ _).alloc (Nat.le_refl _) _ : Below W4.heap.size W4 W5).mono HB2_4.out.size))
      have HB3_5 : Hid (Below W3.heap.size W3 W5) := Lib.hid (HB3_4.out.trans ((by rw [← HW5.out]; exact (Below.refl _ _).alloc (Nat.le_refl _) _ : Below W4.heap.size W4 W5).mono HB3_4.out.size))
      have HB4_5 : Hid (Below W4.heap.size W4 W5) := Lib.hid (by rw [← HW5.out]; exact (Below.refl _ _).alloc (Nat.le_refl _) _)
      have HX_c : Hid (∀ W, Below W5.heap.size W5 W → W.heap[W4.heap.size]? = some (.cells #[.int .i64 b0, .int .i64 b1, .int .i64 b2, .int .i64 b3, .int .i64 b4, .int .i64 b5] 24 (0, 0))) := Lib.hid (fun W hb => (hb.block _ (by rw [← HW5.out]; simp)).trans (by rw [← HW5.out]; exact heap_alloc_new _ _))
      obtain ⟨t_0, t_1, t_2, t_3, t_4, t_5, t_6, t_7, t_8, t_9, t_10, t_11, t_12⟩ := cells13 (HX_t.out W5 HB3_5.out)
      rw [← HW5.out] at t_0 t_1 t_2 t_3 t_4 t_5 t_6 t_7 t_8 t_9 t_10 t_11 t_12
      obtain ⟨q0, q1, q2, q3, q4, q5⟩ := cells6 (HX2.out W5 HB0_5.out)
      rw [← HW5.out] at q0 q1 q2 q3 q4 q5
      go_wp2_with fail
      refine Calls.mono (right_is kT oT aT yT dT qT pT lT sT nT onT zT tT HF3.out HR3.out _) ?_
      rintro e6 W6 ⟨rfl, hb⟩
      rw [HW5.out] at hb
      have HB0_6 : Hid (Below W0.heap.size W0 W6) := Lib.hid (HB0_5.out.trans ((hb : Below W5.heap.size W5 W6).mono HB0_5.out.size))
      have HB1_6 : Hid (Below W1.heap.size W1 W6) := Lib.hid (HB1_5.out.trans ((hb : Below W5.heap.size W5 W6).mono HB1_5.out.size))
      have HB2_6 : Hid (Below W2.heap.size W2 W6) := Lib.hid (HB2_5.out.trans ((hb : Below W5.heap.size W5 W6).mono HB2_5.out.size))
      have HB3_6 : Hid (Below W3.heap.size W3 W6) := Lib.hid (HB3_5.out.trans ((hb : Below W5.heap.size W5 W6).mono HB3_5.out.size))
      have HB4_6 : Hid (Below W4.heap.size W4 W6) := Lib.hid (HB4_5.out.trans ((hb : Below W5.heap.size W5 W6).mono HB4_5.out.size))
      have HB5_6 : Hid (Below W5.heap.size W5 W6) := Lib.hid (hb)
      clear hb
      clear t_0 t_1 t_2 t_3 t_4 t_5 t_6 t_7 t_8 t_9 t_10 t_11 t_12 q0 q1 q2 q3 q4 q5
      go_wp2_with fail
      go_meet
      exact ⟨rfl, HB0_6.out⟩
    · go_wp2_with fail
      go_meet
      exact ⟨rfl, by rw [HW3.out]; exact HB0_3.out⟩
  case rest =>
    obtain ⟨rfl, hgc⟩ := hcut
    obtain ⟨W4, hWc⟩ : ∃ W, W = wc := ⟨_, rfl⟩
    rw [← hWc] at hgc ⊢
    have HB0_4 := Lib.hid hgc
    clear hgc hWc wc
    obtain ⟨p0, p1, p2, p3, p4, p5, p6, p7, p8, p9, p10, p11, p12⟩ := cells13 (HX0.out W4 HB0_4.out)
    go_wp2_with fail
    refine Calls.mono (right_is k o a y d q p l s n on z t HF1.out HM1.out _) ?_
    rintro e5 W5 ⟨rfl, hb⟩
    have HB0_5 : Hid (Below W0.heap.size W0 W5) := Lib.hid (HB0_4.out.trans ((hb : Below W4.heap.size W4 W5).mono HB0_4.out.size))
    have HB4_5 : Hid (Below W4.heap.size W4 W5) := Lib.hid (hb)
    clear hb
    clear p0 p1 p2 p3 p4 p5 p6 p7 p8 p9 p10 p11 p12
    rcases m1 with _ | _
    · go_wp2_with fail
      go_ret
      exact ⟨rfl, HBW.out.trans (HB0_5.out.mono HBW.out.size)⟩
    · obtain ⟨p0, p1, p2, p3, p4, p5, p6, p7, p8, p9, p10, p11, p12⟩ := cells13 (HX1.out W5 HB0_5.out)
      go_wp2_with fail
      refine Calls.mono (right_is kS oS aS yS dS qS pS lS sS nS onS zS tS HF2.out HM2.out _) ?_
      rintro e6 W6 ⟨rfl, hb⟩
      have HB0_6 : Hid (Below W0.heap.size W0 W6) := Lib.hid (HB0_5.out.trans ((hb : Below W5.heap.size W5 W6).mono HB0_5.out.size))
      have HB4_6 : Hid (Below W4.heap.size W4 W6) := Lib.hid (HB4_5.out.trans ((hb : Below W5.heap.size W5 W6).mono HB4_5.out.size))
      have HB5_6 : Hid (Below W5.heap.size W5 W6) := Lib.hid (hb)
      clear hb
      clear p0 p1 p2 p3 p4 p5 p6 p7 p8 p9 p10 p11 p12
      rcases m2 with _ | _
      · go_wp2_with fail
        go_ret
        exact ⟨rfl, HBW.out.trans (HB0_6.out.mono HBW.out.size)⟩
      · have HPK1 : Hid (pack ⟨k, o, a, y, d, q, p, l, s, n, on, z, t⟩ = (⟨x0, x1, x2, x3, x4, x5⟩, 0)) := Lib.hid (by unfold pack; rw [if_pos HM1.out, HN1.out])
        have HPK2 : Hid (pack ⟨kS, oS, aS, yS, dS, qS, pS, lS, sS, nS, onS, zS, tS⟩ = (⟨y0, y1, y2, y3, y4, y5⟩, 0)) := Lib.hid (by unfold pack; rw [if_pos HM2.out, HN2.out])
        have HU1 : Hid (unp k ⟨x0, x1, x2, x3, x4, x5⟩ = (⟨k, o, a, y, d, q, p, l, s, n, on, z, t⟩, 0)) := Lib.hid (by have := unp_nums HM1.out; rw [HN1.out] at this; exact this)
        have HFR : Hid (framed ⟨k, o, a, y, d, q, p, l, s, n, on, z, t⟩ 5 2 = (⟨2, 5, k, x0, x1, x2, x3, x4, x5⟩, 0)) := Lib.hid (by unfold framed fr; rw [if_pos HM1.out, HN1.out])
        have HKK : Hid (1 ≤ k ∧ k ≤ 6) := Lib.hid (right_kind HM1.out)
        obtain ⟨p0, p1, p2, p3, p4, p5, p6, p7, p8, p9, p10, p11, p12⟩ := cells13 (HX0.out W6 HB0_6.out)
        go_wp2_with fail
        refine Calls.mono (pack_is k o a y d q p l s n on z t HF1.out HPK1.out _) ?_
        rintro e7 W7 ⟨rfl, hb⟩
        have HB0_7 : Hid (Below W0.heap.size W0 W7) := Lib.hid (HB0_6.out.trans ((hb : Below W6.heap.size W6 W7).mono HB0_6.out.size))
        have HB4_7 : Hid (Below W4.heap.size W4 W7) := Lib.hid (HB4_6.out.trans ((hb : Below W6.heap.size W6 W7).mono HB4_6.out.size))
        have HB5_7 : Hid (Below W5.heap.size W5 W7) := Lib.hid (HB5_6.out.trans ((hb : Below W6.heap.size W6 W7).mono HB5_6.out.size))
        have HB6_7 : Hid (Below W6.heap.size W6 W7) := Lib.hid (hb)
        clear hb
        clear p0 p1 p2 p3 p4 p5 p6 p7 p8 p9 p10 p11 p12
        obtain ⟨W8, HW8⟩ : ∃ W, Hid ((W7.alloc (.cells #[.int .i64 x0, .int .i64 x1, .int .i64 x2, .int .i64 x3, .int .i64 x4, .int .i64 x5] 24)) = W) := ⟨_, Lib.hid rfl⟩
        have HB0_8 : Hid (Below W0.heap.size W0 W8) := Lib.hid (HB0_7.out.trans ((by rw [← HW8.out]; exact (Below.refl _ _).alloc (Nat.le_refl _) _ : Below W7.heap.size W7 W8).mono HB0_7.out.size))
        have HB4_8 : Hid (Below W4.heap.size W4 W8) := Lib.hid (HB4_7.out.trans ((by rw [← HW8.out]; exact (Below.refl _ _).alloc (Nat.le_refl _) _ : Below W7.heap.size W7 W8).mono HB4_7.out.size))
        have HB5_8 : Hid (Below W5.heap.size W5 W8) := Lib.hid (HB5_7.out.trans ((by rw [← HW8.out]; exact (Below.refl _ _).alloc (Nat.le_refl _) _ : Below W7.heap.size W7 W8).mono HB5_7.out.size))
        have HB6_8 : Hid (Below W6.heap.size W6 W8) := Lib.hid (HB6_7.out.trans ((by rw [← HW8.out]; exact (Below.refl _ _).alloc (Nat.le_refl _) _ : Below W7.heap.size W7 W8).mono HB6_7.out.size))
        have HB7_8 : Hid (Below W7.heap.size W7 W8) := Lib.hid (by rw [← HW8.out]; exact (Below.refl _ _).alloc (Nat.le_refl _) _)
        have HX_x : Hid (∀ W, Below W8.heap.size W8 W → W.heap[W7.heap.size]? = some (.cells #[.int .i64 x0, .int .i64 x1, .int .i64 x2, .int .i64 x3, .int .i64 x4, .int .i64 x5] 24 (0, 0))) := Lib.hid (fun W hb => (hb.block _ (by rw [← HW8.out]; simp)).trans (by rw [← HW8.out]; exact heap_alloc_new _ _))
        obtain ⟨p0, p1, p2, p3, p4, p5, p6, p7, p8, p9, p10, p11, p12⟩ := cells13 (HX1.out W8 HB0_8.out)
        rw [← HW8.out] at p0 p1 p2 p3 p4 p5 p6 p7 p8 p9 p10 p11 p12
        go_wp2_with fail
        refine Calls.mono (pack_is kS oS aS yS dS qS pS lS sS nS onS zS tS HF2.out HPK2.out _) ?_
        rintro e9 W9 ⟨rfl, hb⟩
        rw [HW8.out] at hb
        have HB0_9 : Hid (Below W0.heap.size W0 W9) := Lib.hid (HB0_8.out.trans ((hb : Below W8.heap.size W8 W9).mono HB0_8.out.size))
        have HB4_9 : Hid (Below W4.heap.size W4 W9) := Lib.hid (HB4_8.out.trans ((hb : Below W8.heap.size W8 W9).mono HB4_8.out.size))
        have HB5_9 : Hid (Below W5.heap.size W5 W9) := Lib.hid (HB5_8.out.trans ((hb : Below W8.heap.size W8 W9).mono HB5_8.out.size))
        have HB6_9 : Hid (Below W6.heap.size W6 W9) := Lib.hid (HB6_8.out.trans ((hb : Below W8.heap.size W8 W9).mono HB6_8.out.size))
        have HB7_9 : Hid (Below W7.heap.size W7 W9) := Lib.hid (HB7_8.out.trans ((hb : Below W8.heap.size W8 W9).mono HB7_8.out.size))
        have HB8_9 : Hid (Below W8.heap.size W8 W9) := Lib.hid (hb)
        clear hb
        clear p0 p1 p2 p3 p4 p5 p6 p7 p8 p9 p10 p11 p12
        obtain ⟨W10, HW10⟩ : ∃ W, Hid ((W9.alloc (.cells #[.int .i64 y0, .int .i64 y1, .int .i64 y2, .int .i64 y3, .int .i64 y4, .int .i64 y5] 24)) = W) := ⟨_, Lib.hid rfl⟩
        have HB0_10 : Hid (Below W0.heap.size W0 W10) := Lib.hid (HB0_9.out.trans ((by rw [← HW10.out]; exact (Below.refl _ _).alloc (Nat.le_refl _) _ : Below W9.heap.size W9 W10).mono HB0_9.out.size))
        have HB4_10 : Hid (Below W4.heap.size W4 W10) := Lib.hid (HB4_9.out.trans ((by rw [← HW10.out]; exact (Below.refl _ _).alloc (Nat.le_refl _) _ : Below W9.heap.size W9 W10).mono HB4_9.out.size))
        have HB5_10 : Hid (Below W5.heap.size W5 W10) := Lib.hid (HB5_9.out.trans ((by rw [← HW10.out]; exact (Below.refl _ _).alloc (Nat.le_refl _) _ : Below W9.heap.size W9 W10).mono HB5_9.out.size))
        have HB6_10 : Hid (Below W6.heap.size W6 W10) := Lib.hid (HB6_9.out.trans ((by rw [← HW10.out]; exact (Below.refl _ _).alloc (Nat.le_refl _) _ : Below W9.heap.size W9 W10).mono HB6_9.out.size))
        have HB7_10 : Hid (Below W7.heap.size W7 W10) := Lib.hid (HB7_9.out.trans ((by rw [← HW10.out]; exact (Below.refl _ _).alloc (Nat.le_refl _) _ : Below W9.heap.size W9 W10).mono HB7_9.out.size))
        have HB8_10 : Hid (Below W8.heap.size W8 W10) := Lib.hid (HB8_9.out.trans ((by rw [← HW10.out]; exact (Below.refl _ _).alloc (Nat.le_refl _) _ : Below W9.heap.size W9 W10).mono HB8_9.out.size))
        have HB9_10 : Hid (Below W9.heap.size W9 W10) := Lib.hid (by rw [← HW10.out]; exact (Below.refl _ _).alloc (Nat.le_refl _) _)
        have HX_y : Hid (∀ W, Below W10.heap.size W10 W → W.heap[W9.heap.size]? = some (.cells #[.int .i64 y0, .int .i64 y1, .int .i64 y2, .int .i64 y3, .int .i64 y4, .int .i64 y5] 24 (0, 0))) := Lib.hid (fun W hb => (hb.block _ (by rw [← HW10.out]; simp)).trans (by rw [← HW10.out]; exact heap_alloc_new _ _))
        obtain ⟨p0, p1, p2, p3, p4, p5, p6, p7, p8, p9, p10, p11, p12⟩ := cells13 (HX0.out W10 HB0_10.out)
        rw [← HW10.out] at p0 p1 p2 p3 p4 p5 p6 p7 p8 p9 p10 p11 p12
        obtain ⟨u0, u1, u2, u3, u4, u5⟩ := cells6 (HX_x.out W10 HB8_10.out)
        rw [← HW10.out] at u0 u1 u2 u3 u4 u5
        go_wp2_with fail
        refine Calls.mono (unp_is k x0 x1 x2 x3 x4 x5 HF1.out.1 HFX.out HU1.out _) ?_
        rintro e11 W11 ⟨rfl, hb⟩
        rw [HW10.out] at hb
        have HB0_11 : Hid (Below W0.heap.size W0 W11) := Lib.hid (HB0_10.out.trans ((hb : Below W10.heap.size W10 W11).mono HB0_10.out.size))
        have HB4_11 : Hid (Below W4.heap.size W4 W11) := Lib.hid (HB4_10.out.trans ((hb : Below W10.heap.size W10 W11).mono HB4_10.out.size))
        have HB5_11 : Hid (Below W5.heap.size W5 W11) := Lib.hid (HB5_10.out.trans ((hb : Below W10.heap.size W10 W11).mono HB5_10.out.size))
        have HB6_11 : Hid (Below W6.heap.size W6 W11) := Lib.hid (HB6_10.out.trans ((hb : Below W10.heap.size W10 W11).mono HB6_10.out.size))
        have HB7_11 : Hid (Below W7.heap.size W7 W11) := Lib.hid (HB7_10.out.trans ((hb : Below W10.heap.size W10 W11).mono HB7_10.out.size))
        have HB8_11 : Hid (Below W8.heap.size W8 W11) := Lib.hid (HB8_10.out.trans ((hb : Below W10.heap.size W10 W11).mono HB8_10.out.size))
        have HB9_11 : Hid (Below W9.heap.size W9 W11) := Lib.hid (HB9_10.out.trans ((hb : Below W10.heap.size W10 W11).mono HB9_10.out.size))
        have HB10_11 : Hid (Below W10.heap.size W10 W11) := Lib.hid (hb)
        clear hb
        clear p0 p1 p2 p3 p4 p5 p6 p7 p8 p9 p10 p11 p12 u0 u1 u2 u3 u4 u5
        obtain ⟨W12, HW12⟩ : ∃ W, Hid ((W11.alloc (.cells #[.int .i64 k, .int .i64 o, .int .i64 a, .int .i64 y, .int .i64 d, .int .i64 q, .int .i64 p, .int .i64 l, .int .i64 s, .int .i64 n, .bool on, .int .i64 z, .int .i64 t] 23)) = W) := ⟨_, Lib.hid rfl⟩
        have HB0_12 : Hid (Below W0.heap.size W0 W12) := Lib.hid (HB0_11.out.trans ((by rw [← HW12.out]; exact (Below.refl _ _).alloc (Nat.le_refl _) _ : Below W11.heap.size W11 W12).mono HB0_11.out.size))
        have HB4_12 : Hid (Below W4.heap.size W4 W12) := Lib.hid (HB4_11.out.trans ((by rw [← HW12.out]; exact (Below.refl _ _).alloc (Nat.le_refl _) _ : Below W11.heap.size W11 W12).mono HB4_11.out.size))
        have HB5_12 : Hid (Below W5.heap.size W5 W12) := Lib.hid (HB5_11.out.trans ((by rw [← HW12.out]; exact (Below.refl _ _).alloc (Nat.le_refl _) _ : Below W11.heap.size W11 W12).mono HB5_11.out.size))
        have HB6_12 : Hid (Below W6.heap.size W6 W12) := Lib.hid (HB6_11.out.trans ((by rw [← HW12.out]; exact (Below.refl _ _).alloc (Nat.le_refl _) _ : Below W11.heap.size W11 W12).mono HB6_11.out.size))
        have HB7_12 : Hid (Below W7.heap.size W7 W12) := Lib.hid (HB7_11.out.trans ((by rw [← HW12.out]; exact (Below.refl _ _).alloc (Nat.le_refl _) _ : Below W11.heap.size W11 W12).mono HB7_11.out.size))
        have HB8_12 : Hid (Below W8.heap.size W8 W12) := Lib.hid (HB8_11.out.trans ((by rw [← HW12.out]; exact (Below.refl _ _).alloc (Nat.le_refl _) _ : Below W11.heap.size W11 W12).mono HB8_11.out.size))
        have HB9_12 : Hid (Below W9.heap.size W9 W12) := Lib.hid (HB9_11.out.trans ((by rw [← HW12.out]; exact (Below.refl _ _).alloc (Nat.le_refl _) _ : Below W11.heap.size W11 W12).mono HB9_11.out.size))
        have HB10_12 : Hid (Below W10.heap.size W10 W12) := Lib.hid (HB10_11.out.trans ((by rw [← HW12.out]; exact (Below.refl _ _).alloc (Nat.le_refl _) _ : Below W11.heap.size W11 W12).mono HB10_11.out.size))
        have HB11_12 : Hid (Below W11.heap.size W11 W12) := Lib.hid (by rw [← HW12.out]; exact (Below.refl _ _).alloc (Nat.le_refl _) _)
        have HX_k : Hid (∀ W, Below W12.heap.size W12 W → W.heap[W11.heap.size]? = some (.cells #[.int .i64 k, .int .i64 o, .int .i64 a, .int .i64 y, .int .i64 d, .int .i64 q, .int .i64 p, .int .i64 l, .int .i64 s, .int .i64 n, .bool on, .int .i64 z, .int .i64 t] 23 (0, 0))) := Lib.hid (fun W hb => (hb.block _ (by rw [← HW12.out]; simp)).trans (by rw [← HW12.out]; exact heap_alloc_new _ _))
        go_upto_region 13 with fail
        have heq : ∀ W, (Op.equalIn 10000 23 (.agg #[.int .i64 k, .int .i64 o, .int .i64 a, .int .i64 y, .int .i64 d, .int .i64 q, .int .i64 p, .int .i64 l, .int .i64 s, .int .i64 n, .bool on, .int .i64 z, .int .i64 t]) (.agg #[.int .i64 k, .int .i64 o, .int .i64 a, .int .i64 y, .int .i64 d, .int .i64 q, .int .i64 p, .int .i64 l, .int .i64 s, .int .i64 n, .bool on, .int .i64 z, .int .i64 t])).run Try.prog W = .ok true W := fun W => eq13_of rfl rfl HF1.out HF1.out (decide_eq_true rfl) W
        go_cut [115] (fun s wx => s = .bool false ∧ Below W12.heap.size W12 wx)
        case first =>
          rw [HW12.out]
          refine wp_region_held_drew (S := fun W => Below W12.heap.size W12 W) (by kernel_rfl) (Below.refl _ _).drew (fun _ => ?_)
          obtain ⟨W13, hW13⟩ : ∃ x, x = W12.drew := ⟨_, rfl⟩
          rw [← hW13]
          have HB0_13 : Hid (Below W0.heap.size W0 W13) := Lib.hid (HB0_12.out.trans ((by rw [hW13]; exact (Below.refl _ _).drew : Below W12.heap.size W12 W13).mono HB0_12.out.size))
          have HB4_13 : Hid (Below W4.heap.size W4 W13) := Lib.hid (HB4_12.out.trans ((by rw [hW13]; exact (Below.refl _ _).drew : Below W12.heap.size W12 W13).mono HB4_12.out.size))
          have HB5_13 : Hid (Below W5.heap.size W5 W13) := Lib.hid (HB5_12.out.trans ((by rw [hW13]; exact (Below.refl _ _).drew : Below W12.heap.size W12 W13).mono HB5_12.out.size))
          have HB6_13 : Hid (Below W6.heap.size W6 W13) := Lib.hid (HB6_12.out.trans ((by rw [hW13]; exact (Below.refl _ _).drew : Below W12.heap.size W12 W13).mono HB6_12.out.size))
          have HB7_13 : Hid (Below W7.heap.size W7 W13) := Lib.hid (HB7_12.out.trans ((by rw [hW13]; exact (Below.refl _ _).drew : Below W12.heap.size W12 W13).mono HB7_12.out.size))
          have HB8_13 : Hid (Below W8.heap.size W8 W13) := Lib.hid (HB8_12.out.trans ((by rw [hW13]; exact (Below.refl _ _).drew : Below W12.heap.size W12 W13).mono HB8_12.out.size))
          have HB9_13 : Hid (Below W9.heap.size W9 W13) := Lib.hid (HB9_12.out.trans ((by rw [hW13]; exact (Below.refl _ _).drew : Below W12.heap.size W12 W13).mono HB9_12.out.size))
          have HB10_13 : Hid (Below W10.heap.size W10 W13) := Lib.hid (HB10_12.out.trans ((by rw [hW13]; exact (Below.refl _ _).drew : Below W12.heap.size W12 W13).mono HB10_12.out.size))
          have HB11_13 : Hid (Below W11.heap.size W11 W13) := Lib.hid (HB11_12.out.trans ((by rw [hW13]; exact (Below.refl _ _).drew : Below W12.heap.size W12 W13).mono HB11_12.out.size))
          have HB12_13 : Hid (Below W12.heap.size W12 W13) := Lib.hid (by rw [hW13]; exact (Below.refl _ _).drew)
          clear hW13
          refine wpAnyH_take (i := 0) (v := .int .i64 0) rfl (by kernel_rfl) (by kernel_rfl) (by kernel_rfl) (fun _ _ _ h => h) (Or.inl ⟨by kernel_rfl, ?h0⟩) HB12_13.out ?_
          case h0 => (intro W9 hW9; go_simp)
          go_simp
          refine wpAnyH_take (i := 1) (v := .bool false) rfl (by kernel_rfl) (by kernel_rfl) (by kernel_rfl) (fun _ _ _ h => h) (Or.inl ⟨by kernel_rfl, ?h1⟩) HB12_13.out ?_
          case h1 => (intro W9 hW9; go_simp)
          go_simp
          refine wpAnyH_take (i := 2) (v := .bool false) rfl (by kernel_rfl) (by kernel_rfl) (by kernel_rfl) (fun _ _ _ h => h) (Or.inl ⟨by kernel_rfl, ?h2⟩) HB12_13.out ?_
          case h2 => (intro W9 hW9; go_simp)
          go_simp
          refine wpAnyH_take (i := 3) (v := .int .i64 0) rfl (by kernel_rfl) (by kernel_rfl) (by kernel_rfl) (fun _ _ _ h => h) (Or.inl ⟨by kernel_rfl, ?h3⟩) HB12_13.out ?_
          case h3 => (intro W9 hW9; go_simp)
          go_simp
          refine wpAnyH_take (i := 4) (v := .bool false) rfl (by kernel_rfl) (by kernel_rfl) (by kernel_rfl) (fun _ _ _ h => h) (Or.inl ⟨by kernel_rfl, ?h4⟩) HB12_13.out ?_
          case h4 => (intro W9 hW9; go_simp)
          go_simp
          refine wpAnyH_take (i := 5) (v := .bool false) rfl (by kernel_rfl) (by kernel_rfl) (by kernel_rfl) (fun _ _ _ h => h) (Or.inl ⟨by kernel_rfl, ?h5⟩) HB12_13.out ?_
          case h5 => (intro W9 hW9; go_simp)
          go_simp
          refine wpAnyH_take (i := 6) (v := .bool false) rfl (by kernel_rfl) (by kernel_rfl) (by kernel_rfl) (fun _ _ _ h => h) (Or.inl ⟨by kernel_rfl, ?h6⟩) HB12_13.out ?_
          case h6 => (intro W9 hW9; go_simp)
          go_simp
          refine wpAnyH_take (i := 7) (v := .int .i64 0) rfl (by kernel_rfl) (by kernel_rfl) (by kernel_rfl) (fun _ _ _ h => h) (Or.inl ⟨by kernel_rfl, ?h7⟩) HB12_13.out ?_
          case h7 => (intro W9 hW9; go_simp)
          go_simp
          refine wpAnyH_take (i := 8) (v := .bool false) rfl (by kernel_rfl) (by kernel_rfl) (by kernel_rfl) (fun _ _ _ h => h) (Or.inl ⟨by kernel_rfl, ?h8⟩) HB12_13.out ?_
          case h8 => (intro W9 hW9; go_simp)
          go_simp
          refine wpAnyH_take (i := 9) (v := .bool false) rfl (by kernel_rfl) (by kernel_rfl) (by kernel_rfl) (fun _ _ _ h => h) (Or.inl ⟨by kernel_rfl, ?h9⟩) HB12_13.out ?_
          case h9 => (intro W9 hW9; go_simp)
          go_simp
          refine wpAnyH_take (i := 10) (v := .bool false) rfl (by kernel_rfl) (by kernel_rfl) (by kernel_rfl) (fun _ _ _ h => h) (Or.inl ⟨by kernel_rfl, ?h10⟩) HB12_13.out ?_
          case h10 => (intro W9 hW9; go_simp)
          go_simp
          refine wpAnyH_take (i := 11) (v := .agg #[.int .i64 k, .int .i64 o, .int .i64 a, .int .i64 y, .int .i64 d, .int .i64 q, .int .i64 p, .int .i64 l, .int .i64 s, .int .i64 n, .bool on, .int .i64 z, .int .i64 t]) rfl (by kernel_rfl) (by kernel_rfl) (by kernel_rfl) (fun _ _ _ h => h) (Or.inl ⟨by kernel_rfl, ?h11⟩) HB12_13.out ?_
          case h11 => (intro W9 hW9; obtain ⟨y0_0, y0_1, y0_2, y0_3, y0_4, y0_5, y0_6, y0_7, y0_8, y0_9, y0_10, y0_11, y0_12⟩ := cells13 (HX_k.out W9 (show Below W12.heap.size W12 W9 from hW9)); go_simp)
          go_simp
          refine wpAnyH_take (i := 12) (v := .agg #[.int .i64 k, .int .i64 o, .int .i64 a, .int .i64 y, .int .i64 d, .int .i64 q, .int .i64 p, .int .i64 l, .int .i64 s, .int .i64 n, .bool on, .int .i64 z, .int .i64 t]) rfl (by kernel_rfl) (by kernel_rfl) (by kernel_rfl) (fun _ _ _ h => h) (Or.inl ⟨by kernel_rfl, ?h12⟩) HB12_13.out ?_
          case h12 => (intro W9 hW9; obtain ⟨y0_0, y0_1, y0_2, y0_3, y0_4, y0_5, y0_6, y0_7, y0_8, y0_9, y0_10, y0_11, y0_12⟩ := cells13 (HX0.out W9 (HB0_12.out.trans ((show Below W12.heap.size W12 W9 from hW9).mono HB0_12.out.size))); go_simp)
          go_simp
          refine wpAnyH_take (i := 13) (v := .bool false) rfl (by kernel_rfl) (by kernel_rfl) (by kernel_rfl) (fun _ _ _ h => h) (Or.inl ⟨by kernel_rfl, ?h13⟩) HB12_13.out ?_
          case h13 => (intro W9 hW9; go_simp)
          go_simp
          refine wpAnyH_take (i := 14) (v := .bool false) rfl (by kernel_rfl) (by kernel_rfl) (by kernel_rfl) (fun _ _ _ h => h) (Or.inl ⟨by kernel_rfl, ?h14⟩) HB12_13.out ?_
          case h14 => (intro W9 hW9; go_simp)
          go_simp
          refine wpAnyH_take (i := 15) (v := .bool false) rfl (by kernel_rfl) (by kernel_rfl) (by kernel_rfl) (fun _ _ _ h => h) (Or.inl ⟨by kernel_rfl, ?h15⟩) HB12_13.out ?_
          case h15 => (intro W9 hW9; go_simp)
          go_simp
          refine wpAnyH_take (i := 16) (v := .pointer (some ⟨w.heap.size, 0, none⟩)) rfl (by kernel_rfl) (by kernel_rfl) (by kernel_rfl) (fun _ _ _ h => h) (Or.inl ⟨by kernel_rfl, ?h16⟩) HB12_13.out ?_
          case h16 => (intro W9 hW9; go_simp)
          go_simp
          refine wpAnyH_take (i := 17) (v := .int .i64 k) rfl (by kernel_rfl) (by kernel_rfl) (by kernel_rfl) (fun _ _ _ h => h) (Or.inl ⟨by kernel_rfl, ?h17⟩) HB12_13.out ?_
          case h17 => (intro W9 hW9; obtain ⟨y0_0, y0_1, y0_2, y0_3, y0_4, y0_5, y0_6, y0_7, y0_8, y0_9, y0_10, y0_11, y0_12⟩ := cells13 (HX0.out W9 (HB0_12.out.trans ((show Below W12.heap.size W12 W9 from hW9).mono HB0_12.out.size))); go_simp)
          go_simp
          refine wpAnyH_take (i := 18) (v := .pointer (some ⟨w.heap.size + 1, 0, none⟩)) rfl (by kernel_rfl) (by kernel_rfl) (by kernel_rfl) (fun _ _ _ h => h) (Or.inl ⟨by kernel_rfl, ?h18⟩) HB12_13.out ?_
          case h18 => (intro W9 hW9; go_simp)
          go_simp
          refine wpAnyH_take (i := 19) (v := .int .i64 kS) rfl (by kernel_rfl) (by kernel_rfl) (by kernel_rfl) (fun _ _ _ h => h) (Or.inl ⟨by kernel_rfl, ?h19⟩) HB12_13.out ?_
          case h19 => (intro W9 hW9; obtain ⟨y0_0, y0_1, y0_2, y0_3, y0_4, y0_5, y0_6, y0_7, y0_8, y0_9, y0_10, y0_11, y0_12⟩ := cells13 (HX1.out W9 (HB0_12.out.trans ((show Below W12.heap.size W12 W9 from hW9).mono HB0_12.out.size))); go_simp)
          go_simp
          by_cases hkk : k = kS
          · have hqq : decide ((⟨x0, x1, x2, x3, x4, x5⟩ : Ns) = ⟨y0, y1, y2, y3, y4, y5⟩) = decide ((⟨k, o, a, y, d, q, p, l, s, n, on, z, t⟩ : Rc) = ⟨kS, oS, aS, yS, dS, qS, pS, lS, sS, nS, onS, zS, tS⟩) := by
              rw [← HN1.out, ← HN2.out]
              exact decide_eq_decide.2 (nums_inj HM1.out HM2.out hkk)
            obtain ⟨qq, hq⟩ : ∃ x, decide ((⟨k, o, a, y, d, q, p, l, s, n, on, z, t⟩ : Rc) = ⟨kS, oS, aS, yS, dS, qS, pS, lS, sS, nS, onS, zS, tS⟩) = x := ⟨_, rfl⟩
            have heq6 : ∀ W, (Op.equalIn 10000 24 (.agg #[.int .i64 x0, .int .i64 x1, .int .i64 x2, .int .i64 x3, .int .i64 x4, .int .i64 x5]) (.agg #[.int .i64 y0, .int .i64 y1, .int .i64 y2, .int .i64 y3, .int .i64 y4, .int .i64 y5])).run Try.prog W = .ok qq W := fun W => eq6_of rfl rfl HFX.out HFY.out (hqq.trans hq) W
            have heq2 : ∀ W, (Op.equalIn 10000 23 (.agg #[.int .i64 k, .int .i64 o, .int .i64 a, .int .i64 y, .int .i64 d, .int .i64 q, .int .i64 p, .int .i64 l, .int .i64 s, .int .i64 n, .bool on, .int .i64 z, .int .i64 t]) (.agg #[.int .i64 kS, .int .i64 oS, .int .i64 aS, .int .i64 yS, .int .i64 dS, .int .i64 qS, .int .i64 pS, .int .i64 lS, .int .i64 sS, .int .i64 nS, .bool onS, .int .i64 zS, .int .i64 tS])).run Try.prog W = .ok qq W := fun W => eq13_of rfl rfl HF1.out HF2.out hq W
            clear hq hqq
            have hkb : (k == kS) = true := by simpa using hkk
            clear hkk
            refine wpAnyH_take (i := 20) (v := .bool true) rfl (by kernel_rfl) (by kernel_rfl) (by kernel_rfl) (fun _ _ _ h => h) (Or.inl ⟨by kernel_rfl, ?h20⟩) HB12_13.out ?_
            case h20 => (intro W9 hW9; go_simp)
            go_simp
            refine wpAnyH_take (i := 21) (v := .bool true) rfl (by kernel_rfl) (by kernel_rfl) (by kernel_rfl) (fun _ _ _ h => h) (Or.inl ⟨by kernel_rfl, ?h21⟩) HB12_13.out ?_
            case h21 => (intro W9 hW9; go_simp)
            go_simp
            refine wpAnyH_take (i := 22) (v := .agg #[.int .i64 x0, .int .i64 x1, .int .i64 x2, .int .i64 x3, .int .i64 x4, .int .i64 x5]) rfl (by kernel_rfl) (by kernel_rfl) (by kernel_rfl) (fun _ _ _ h => h) (Or.inl ⟨by kernel_rfl, ?h22⟩) HB12_13.out ?_
            case h22 => (intro W9 hW9; obtain ⟨y0_0, y0_1, y0_2, y0_3, y0_4, y0_5⟩ := cells6 (HX_x.out W9 (HB8_12.out.trans ((show Below W12.heap.size W12 W9 from hW9).mono HB8_12.out.size))); go_simp)
            go_simp
            refine wpAnyH_take (i := 23) (v := .agg #[.int .i64 y0, .int .i64 y1, .int .i64 y2, .int .i64 y3, .int .i64 y4, .int .i64 y5]) rfl (by kernel_rfl) (by kernel_rfl) (by kernel_rfl) (fun _ _ _ h => h) (Or.inl ⟨by kernel_rfl, ?h23⟩) HB12_13.out ?_
            case h23 => (intro W9 hW9; obtain ⟨y0_0, y0_1, y0_2, y0_3, y0_4, y0_5⟩ := cells6 (HX_y.out W9 (HB10_12.out.trans ((show Below W12.heap.size W12 W9 from hW9).mono HB10_12.out.size))); go_simp)
            go_simp
            refine wpAnyH_take (i := 24) (v := .bool qq) rfl (by kernel_rfl) (by kernel_rfl) (by kernel_rfl) (fun _ _ _ h => h) (Or.inl ⟨by kernel_rfl, ?h24⟩) HB12_13.out ?_
            case h24 => (intro W9 hW9; go_simp)
            go_simp
            refine wpAnyH_take (i := 25) (v := .agg #[.int .i64 k, .int .i64 o, .int .i64 a, .int .i64 y, .int .i64 d, .int .i64 q, .int .i64 p, .int .i64 l, .int .i64 s, .int .i64 n, .bool on, .int .i64 z, .int .i64 t]) rfl (by kernel_rfl) (by kernel_rfl) (by kernel_rfl) (fun _ _ _ h => h) (Or.inl ⟨by kernel_rfl, ?h25⟩) HB12_13.out ?_
            case h25 => (intro W9 hW9; obtain ⟨y0_0, y0_1, y0_2, y0_3, y0_4, y0_5, y0_6, y0_7, y0_8, y0_9, y0_10, y0_11, y0_12⟩ := cells13 (HX0.out W9 (HB0_12.out.trans ((show Below W12.heap.size W12 W9 from hW9).mono HB0_12.out.size))); go_simp)
            go_simp
            refine wpAnyH_take (i := 26) (v := .agg #[.int .i64 kS, .int .i64 oS, .int .i64 aS, .int .i64 yS, .int .i64 dS, .int .i64 qS, .int .i64 pS, .int .i64 lS, .int .i64 sS, .int .i64 nS, .bool onS, .int .i64 zS, .int .i64 tS]) rfl (by kernel_rfl) (by kernel_rfl) (by kernel_rfl) (fun _ _ _ h => h) (Or.inl ⟨by kernel_rfl, ?h26⟩) HB12_13.out ?_
            case h26 => (intro W9 hW9; obtain ⟨y0_0, y0_1, y0_2, y0_3, y0_4, y0_5, y0_6, y0_7, y0_8, y0_9, y0_10, y0_11, y0_12⟩ := cells13 (HX1.out W9 (HB0_12.out.trans ((show Below W12.heap.size W12 W9 from hW9).mono HB0_12.out.size))); go_simp)
            go_simp
            refine wpAnyH_take (i := 27) (v := .bool qq) rfl (by kernel_rfl) (by kernel_rfl) (by kernel_rfl) (fun _ _ _ h => h) (Or.inl ⟨by kernel_rfl, ?h27⟩) HB12_13.out ?_
            case h27 => (intro W9 hW9; go_simp)
            go_simp
            refine wpAnyH_take (i := 28) (v := .bool false) rfl (by kernel_rfl) (by kernel_rfl) (by kernel_rfl) (fun _ _ _ h => h) (Or.inl ⟨by kernel_rfl, ?h28⟩) HB12_13.out ?_
            case h28 => (intro W9 hW9; go_simp)
            go_simp
            refine wpAnyH_take (i := 29) (v := .bool false) rfl (by kernel_rfl) (by kernel_rfl) (by kernel_rfl) (fun _ _ _ h => h) (Or.inl ⟨by kernel_rfl, ?h29⟩) HB12_13.out ?_
            case h29 => (intro W9 hW9; go_simp)
            go_simp
            refine wpAnyH_take (i := 30) (v := .bool false) rfl (by kernel_rfl) (by kernel_rfl) (by kernel_rfl) (fun _ _ _ h => h) (Or.inl ⟨by kernel_rfl, ?h30⟩) HB12_13.out ?_
            case h30 => (intro W9 hW9; go_simp)
            go_simp
            refine wpAnyH_done (by kernel_rfl) ?_ _
            go_wp2_with fail
            go_meet
            exact ⟨rfl, HB12_13.out⟩
          · have hkb : (k == kS) = false := by simpa using hkk
            clear hkk
            refine wpAnyH_take (i := 20) (v := .bool false) rfl (by kernel_rfl) (by kernel_rfl) (by kernel_rfl) (fun _ _ _ h => h) (Or.inl ⟨by kernel_rfl, ?h20⟩) HB12_13.out ?_
            case h20 => (intro W9 hW9; go_simp)
            go_simp
            refine wpAnyH_take (i := 21) (v := .bool false) rfl (by kernel_rfl) (by kernel_rfl) (by kernel_rfl) (fun _ _ _ h => h) (Or.inl ⟨by kernel_rfl, ?h21⟩) HB12_13.out ?_
            case h21 => (intro W9 hW9; go_simp)
            go_simp
            refine wpAnyH_take (i := 22) (v := undef) rfl (by kernel_rfl) (by kernel_rfl) (by kernel_rfl) (fun _ _ _ h => h) (Or.inr ⟨by kernel_rfl, rfl⟩) HB12_13.out ?_
            go_simp
            refine wpAnyH_take (i := 23) (v := undef) rfl (by kernel_rfl) (by kernel_rfl) (by kernel_rfl) (fun _ _ _ h => h) (Or.inr ⟨by kernel_rfl, rfl⟩) HB12_13.out ?_
            go_simp
            refine wpAnyH_take (i := 24) (v := undef) rfl (by kernel_rfl) (by kernel_rfl) (by kernel_rfl) (fun _ _ _ h => h) (Or.inr ⟨by kernel_rfl, rfl⟩) HB12_13.out ?_
            go_simp
            refine wpAnyH_take (i := 25) (v := undef) rfl (by kernel_rfl) (by kernel_rfl) (by kernel_rfl) (fun _ _ _ h => h) (Or.inr ⟨by kernel_rfl, rfl⟩) HB12_13.out ?_
            go_simp
            refine wpAnyH_take (i := 26) (v := undef) rfl (by kernel_rfl) (by kernel_rfl) (by kernel_rfl) (fun _ _ _ h => h) (Or.inr ⟨by kernel_rfl, rfl⟩) HB12_13.out ?_
            go_simp
            refine wpAnyH_take (i := 27) (v := undef) rfl (by kernel_rfl) (by kernel_rfl) (by kernel_rfl) (fun _ _ _ h => h) (Or.inr ⟨by kernel_rfl, rfl⟩) HB12_13.out ?_
            go_simp
            refine wpAnyH_take (i := 28) (v := undef) rfl (by kernel_rfl) (by kernel_rfl) (by kernel_rfl) (fun _ _ _ h => h) (Or.inr ⟨by kernel_rfl, rfl⟩) HB12_13.out ?_
            go_simp
            refine wpAnyH_take (i := 29) (v := .bool false) rfl (by kernel_rfl) (by kernel_rfl) (by kernel_rfl) (fun _ _ _ h => h) (Or.inl ⟨by kernel_rfl, ?h29⟩) HB12_13.out ?_
            case h29 => (intro W9 hW9; go_simp)
            go_simp
            refine wpAnyH_take (i := 30) (v := .bool false) rfl (by kernel_rfl) (by kernel_rfl) (by kernel_rfl) (fun _ _ _ h => h) (Or.inl ⟨by kernel_rfl, ?h30⟩) HB12_13.out ?_
            case h30 => (intro W9 hW9; go_simp)
            go_simp
            refine wpAnyH_done (by kernel_rfl) ?_ _
            go_wp2_with fail
            go_meet
            exact ⟨rfl, HB12_13.out⟩
        case rest =>
          obtain ⟨rfl, hgc⟩ := hcut
          obtain ⟨W13, hWc⟩ : ∃ W, W = wc := ⟨_, rfl⟩
          rw [← hWc] at hgc ⊢
          have HB0_13 : Hid (Below W0.heap.size W0 W13) := Lib.hid (HB0_12.out.trans ((hgc : Below W12.heap.size W12 W13).mono HB0_12.out.size))
          have HB4_13 : Hid (Below W4.heap.size W4 W13) := Lib.hid (HB4_12.out.trans ((hgc : Below W12.heap.size W12 W13).mono HB4_12.out.size))
          have HB5_13 : Hid (Below W5.heap.size W5 W13) := Lib.hid (HB5_12.out.trans ((hgc : Below W12.heap.size W12 W13).mono HB5_12.out.size))
          have HB6_13 : Hid (Below W6.heap.size W6 W13) := Lib.hid (HB6_12.out.trans ((hgc : Below W12.heap.size W12 W13).mono HB6_12.out.size))
          have HB7_13 : Hid (Below W7.heap.size W7 W13) := Lib.hid (HB7_12.out.trans ((hgc : Below W12.heap.size W12 W13).mono HB7_12.out.size))
          have HB8_13 : Hid (Below W8.heap.size W8 W13) := Lib.hid (HB8_12.out.trans ((hgc : Below W12.heap.size W12 W13).mono HB8_12.out.size))
          have HB9_13 : Hid (Below W9.heap.size W9 W13) := Lib.hid (HB9_12.out.trans ((hgc : Below W12.heap.size W12 W13).mono HB9_12.out.size))
          have HB10_13 : Hid (Below W10.heap.size W10 W13) := Lib.hid (HB10_12.out.trans ((hgc : Below W12.heap.size W12 W13).mono HB10_12.out.size))
          have HB11_13 : Hid (Below W11.heap.size W11 W13) := Lib.hid (HB11_12.out.trans ((hgc : Below W12.heap.size W12 W13).mono HB11_12.out.size))
          have HB12_13 : Hid (Below W12.heap.size W12 W13) := Lib.hid (hgc)
          clear hgc hWc wc
          obtain ⟨p0, p1, p2, p3, p4, p5, p6, p7, p8, p9, p10, p11, p12⟩ := cells13 (HX0.out W13 HB0_13.out)
          go_wp2_with fail
          refine Calls.mono (frame_is k o a y d q p l s n on z t 5 2 HF1.out HFR.out _) ?_
          rintro e14 W14 ⟨rfl, hb⟩
          have HB0_14 : Hid (Below W0.heap.size W0 W14) := Lib.hid (HB0_13.out.trans ((hb : Below W13.heap.size W13 W14).mono HB0_13.out.size))
          have HB4_14 : Hid (Below W4.heap.size W4 W14) := Lib.hid (HB4_13.out.trans ((hb : Below W13.heap.size W13 W14).mono HB4_13.out.size))
          have HB5_14 : Hid (Below W5.heap.size W5 W14) := Lib.hid (HB5_13.out.trans ((hb : Below W13.heap.size W13 W14).mono HB5_13.out.size))
          have HB6_14 : Hid (Below W6.heap.size W6 W14) := Lib.hid (HB6_13.out.trans ((hb : Below W13.heap.size W13 W14).mono HB6_13.out.size))
          have HB7_14 : Hid (Below W7.heap.size W7 W14) := Lib.hid (HB7_13.out.trans ((hb : Below W13.heap.size W13 W14).mono HB7_13.out.size))
          have HB8_14 : Hid (Below W8.heap.size W8 W14) := Lib.hid (HB8_13.out.trans ((hb : Below W13.heap.size W13 W14).mono HB8_13.out.size))
          have HB9_14 : Hid (Below W9.heap.size W9 W14) := Lib.hid (HB9_13.out.trans ((hb : Below W13.heap.size W13 W14).mono HB9_13.out.size))
          have HB10_14 : Hid (Below W10.heap.size W10 W14) := Lib.hid (HB10_13.out.trans ((hb : Below W13.heap.size W13 W14).mono HB10_13.out.size))
          have HB11_14 : Hid (Below W11.heap.size W11 W14) := Lib.hid (HB11_13.out.trans ((hb : Below W13.heap.size W13 W14).mono HB11_13.out.size))
          have HB12_14 : Hid (Below W12.heap.size W12 W14) := Lib.hid (HB12_13.out.trans ((hb : Below W13.heap.size W13 W14).mono HB12_13.out.size))
          have HB13_14 : Hid (Below W13.heap.size W13 W14) := Lib.hid (hb)
          clear hb
          clear p0 p1 p2 p3 p4 p5 p6 p7 p8 p9 p10 p11 p12
          obtain ⟨W15, HW15⟩ : ∃ W, Hid ((W14.alloc (.cells #[.int .i64 2, .int .i64 5, .int .i64 k, .int .i64 x0, .int .i64 x1, .int .i64 x2, .int .i64 x3, .int .i64 x4, .int .i64 x5] 33)) = W) := ⟨_, Lib.hid rfl⟩
          have HB0_15 : Hid (Below W0.heap.size W0 W15) := Lib.hid (HB0_14.out.trans ((by rw [← HW15.out]; exact (Below.refl _ _).alloc (Nat.le_refl _) _ : Below W14.heap.size W14 W15).mono HB0_14.out.size))
          have HB4_15 : Hid (Below W4.heap.size W4 W15) := Lib.hid (HB4_14.out.trans ((by rw [← HW15.out]; exact (Below.refl _ _).alloc (Nat.le_refl _) _ : Below W14.heap.size W14 W15).mono HB4_14.out.size))
          have HB5_15 : Hid (Below W5.heap.size W5 W15) := Lib.hid (HB5_14.out.trans ((by rw [← HW15.out]; exact (Below.refl _ _).alloc (Nat.le_refl _) _ : Below W14.heap.size W14 W15).mono HB5_14.out.size))
          have HB6_15 : Hid (Below W6.heap.size W6 W15) := Lib.hid (HB6_14.out.trans ((by rw [← HW15.out]; exact (Below.refl _ _).alloc (Nat.le_refl _) _ : Below W14.heap.size W14 W15).mono HB6_14.out.size))
          have HB7_15 : Hid (Below W7.heap.size W7 W15) := Lib.hid (HB7_14.out.trans ((by rw [← HW15.out]; exact (Below.refl _ _).alloc (Nat.le_refl _) _ : Below W14.heap.size W14 W15).mono HB7_14.out.size))
          have HB8_15 : Hid (Below W8.heap.size W8 W15) := Lib.hid (HB8_14.out.trans ((by rw [← HW15.out]; exact (Below.refl _ _).alloc (Nat.le_refl _) _ : Below W14.heap.size W14 W15).mono HB8_14.out.size))
          have HB9_15 : Hid (Below W9.heap.size W9 W15) := Lib.hid (HB9_14.out.trans ((by rw [← HW15.out]; exact (Below.refl _ _).alloc (Nat.le_refl _) _ : Below W14.heap.size W14 W15).mono HB9_14.out.size))
          have HB10_15 : Hid (Below W10.heap.size W10 W15) := Lib.hid (HB10_14.out.trans ((by rw [← HW15.out]; exact (Below.refl _ _).alloc (Nat.le_refl _) _ : Below W14.heap.size W14 W15).mono HB10_14.out.size))
          have HB11_15 : Hid (Below W11.heap.size W11 W15) := Lib.hid (HB11_14.out.trans ((by rw [← HW15.out]; exact (Below.refl _ _).alloc (Nat.le_refl _) _ : Below W14.heap.size W14 W15).mono HB11_14.out.size))
          have HB12_15 : Hid (Below W12.heap.size W12 W15) := Lib.hid (HB12_14.out.trans ((by rw [← HW15.out]; exact (Below.refl _ _).alloc (Nat.le_refl _) _ : Below W14.heap.size W14 W15).mono HB12_14.out.size))
          have HB13_15 : Hid (Below W13.heap.size W13 W15) := Lib.hid (HB13_14.out.trans ((by rw [← HW15.out]; exact (Below.refl _ _).alloc (Nat.le_refl _) _ : Below W14.heap.size W14 W15).mono HB13_14.out.size))
          have HB14_15 : Hid (Below W14.heap.size W14 W15) := Lib.hid (by rw [← HW15.out]; exact (Below.refl _ _).alloc (Nat.le_refl _) _)
          have HX_f : Hid (∀ W, Below W15.heap.size W15 W → W.heap[W14.heap.size]? = some (.cells #[.int .i64 2, .int .i64 5, .int .i64 k, .int .i64 x0, .int .i64 x1, .int .i64 x2, .int .i64 x3, .int .i64 x4, .int .i64 x5] 33 (0, 0))) := Lib.hid (fun W hb => (hb.block _ (by rw [← HW15.out]; simp)).trans (by rw [← HW15.out]; exact heap_alloc_new _ _))
          have HFF : Hid ((⟨2, 5, k, x0, x1, x2, x3, x4, x5⟩ : frame.Fr).fine) := Lib.hid (by obtain ⟨g0, g1, g2, g3, g4, g5⟩ := HFX.out; exact ⟨by simp [frame.inR], by simp [frame.inR], HF1.out.1, g0, g1, g2, g3, g4, g5⟩)
          have HRF : Hid (frame.right ⟨2, 5, k, x0, x1, x2, x3, x4, x5⟩ = true) := Lib.hid (by have := HKK.out; simp [frame.right]; omega)
          obtain ⟨ff, HFFF⟩ : ∃ f, Hid ((⟨2, 5, k, x0, x1, x2, x3, x4, x5⟩ : frame.Fr) = f) := ⟨_, Lib.hid rfl⟩
          have HG1 : Hid ff.fine := Lib.hid (by rw [← HFFF.out]; exact HFF.out)
          have HG2 : Hid (frame.right ff = true) := Lib.hid (by rw [← HFFF.out]; exact HRF.out)
          have HDC : Hid (frame.dec (frame.enc ff) = (0, ⟨2, 5, k, x0, x1, x2, x3, x4, x5⟩)) := Lib.hid (by rw [HFFF.out]; exact frame.dec_enc ff HG1.out HG2.out)
          go_wp2_with fail
          refine Calls.mono (frame.encode_yes_of HFFF.out HG1.out HG2.out _) ?_
          rintro e16 W16 ⟨g, rfl, hown, hb⟩
          rw [HW15.out] at hb
          have HB0_16 : Hid (Below W0.heap.size W0 W16) := Lib.hid (HB0_15.out.trans ((hb : Below W15.heap.size W15 W16).mono HB0_15.out.size))
          have HB4_16 : Hid (Below W4.heap.size W4 W16) := Lib.hid (HB4_15.out.trans ((hb : Below W15.heap.size W15 W16).mono HB4_15.out.size))
          have HB5_16 : Hid (Below W5.heap.size W5 W16) := Lib.hid (HB5_15.out.trans ((hb : Below W15.heap.size W15 W16).mono HB5_15.out.size))
          have HB6_16 : Hid (Below W6.heap.size W6 W16) := Lib.hid (HB6_15.out.trans ((hb : Below W15.heap.size W15 W16).mono HB6_15.out.size))
          have HB7_16 : Hid (Below W7.heap.size W7 W16) := Lib.hid (HB7_15.out.trans ((hb : Below W15.heap.size W15 W16).mono HB7_15.out.size))
          have HB8_16 : Hid (Below W8.heap.size W8 W16) := Lib.hid (HB8_15.out.trans ((hb : Below W15.heap.size W15 W16).mono HB8_15.out.size))
          have HB9_16 : Hid (Below W9.heap.size W9 W16) := Lib.hid (HB9_15.out.trans ((hb : Below W15.heap.size W15 W16).mono HB9_15.out.size))
          have HB10_16 : Hid (Below W10.heap.size W10 W16) := Lib.hid (HB10_15.out.trans ((hb : Below W15.heap.size W15 W16).mono HB10_15.out.size))
          have HB11_16 : Hid (Below W11.heap.size W11 W16) := Lib.hid (HB11_15.out.trans ((hb : Below W15.heap.size W15 W16).mono HB11_15.out.size))
          have HB12_16 : Hid (Below W12.heap.size W12 W16) := Lib.hid (HB12_15.out.trans ((hb : Below W15.heap.size W15 W16).mono HB12_15.out.size))
          have HB13_16 : Hid (Below W13.heap.size W13 W16) := Lib.hid (HB13_15.out.trans ((hb : Below W15.heap.size W15 W16).mono HB13_15.out.size))
          have HB14_16 : Hid (Below W14.heap.size W14 W16) := Lib.hid (HB14_15.out.trans ((hb : Below W15.heap.size W15 W16).mono HB14_15.out.size))
          have HB15_16 : Hid (Below W15.heap.size W15 W16) := Lib.hid (hb)
          clear hb
          have HOW := Lib.hid hown.bys
          clear hown
          go_wp2_with fail
          refine Calls.mono (frame.decode_of _ HOW.out (Nat.le_refl _) (frame.enc_len ff) (Nat.le_refl _) (by omega) HDC.out) ?_
          rintro e17 W17 ⟨rfl, hb⟩
          have HB0_17 : Hid (Below W0.heap.size W0 W17) := Lib.hid (HB0_16.out.trans ((hb : Below W16.heap.size W16 W17).mono HB0_16.out.size))
          have HB4_17 : Hid (Below W4.heap.size W4 W17) := Lib.hid (HB4_16.out.trans ((hb : Below W16.heap.size W16 W17).mono HB4_16.out.size))
          have HB5_17 : Hid (Below W5.heap.size W5 W17) := Lib.hid (HB5_16.out.trans ((hb : Below W16.heap.size W16 W17).mono HB5_16.out.size))
          have HB6_17 : Hid (Below W6.heap.size W6 W17) := Lib.hid (HB6_16.out.trans ((hb : Below W16.heap.size W16 W17).mono HB6_16.out.size))
          have HB7_17 : Hid (Below W7.heap.size W7 W17) := Lib.hid (HB7_16.out.trans ((hb : Below W16.heap.size W16 W17).mono HB7_16.out.size))
          have HB8_17 : Hid (Below W8.heap.size W8 W17) := Lib.hid (HB8_16.out.trans ((hb : Below W16.heap.size W16 W17).mono HB8_16.out.size))
          have HB9_17 : Hid (Below W9.heap.size W9 W17) := Lib.hid (HB9_16.out.trans ((hb : Below W16.heap.size W16 W17).mono HB9_16.out.size))
          have HB10_17 : Hid (Below W10.heap.size W10 W17) := Lib.hid (HB10_16.out.trans ((hb : Below W16.heap.size W16 W17).mono HB10_16.out.size))
          have HB11_17 : Hid (Below W11.heap.size W11 W17) := Lib.hid (HB11_16.out.trans ((hb : Below W16.heap.size W16 W17).mono HB11_16.out.size))
          have HB12_17 : Hid (Below W12.heap.size W12 W17) := Lib.hid (HB12_16.out.trans ((hb : Below W16.heap.size W16 W17).mono HB12_16.out.size))
          have HB13_17 : Hid (Below W13.heap.size W13 W17) := Lib.hid (HB13_16.out.trans ((hb : Below W16.heap.size W16 W17).mono HB13_16.out.size))
          have HB14_17 : Hid (Below W14.heap.size W14 W17) := Lib.hid (HB14_16.out.trans ((hb : Below W16.heap.size W16 W17).mono HB14_16.out.size))
          have HB15_17 : Hid (Below W15.heap.size W15 W17) := Lib.hid (HB15_16.out.trans ((hb : Below W16.heap.size W16 W17).mono HB15_16.out.size))
          have HB16_17 : Hid (Below W16.heap.size W16 W17) := Lib.hid (hb)
          clear hb
          obtain ⟨W18, HW18⟩ : ∃ W, Hid ((W17.alloc (.cells #[.int .i64 2, .int .i64 5, .int .i64 k, .int .i64 x0, .int .i64 x1, .int .i64 x2, .int .i64 x3, .int .i64 x4, .int .i64 x5] 33)) = W) := ⟨_, Lib.hid rfl⟩
          have HB0_18 : Hid (Below W0.heap.size W0 W18) := Lib.hid (HB0_17.out.trans ((by rw [← HW18.out]; exact (Below.refl _ _).alloc (Nat.le_refl _) _ : Below W17.heap.size W17 W18).mono HB0_17.out.size))
          have HB4_18 : Hid (Below W4.heap.size W4 W18) := Lib.hid (HB4_17.out.trans ((by rw [← HW18.out]; exact (Below.refl _ _).alloc (Nat.le_refl _) _ : Below W17.heap.size W17 W18).mono HB4_17.out.size))
          have HB5_18 : Hid (Below W5.heap.size W5 W18) := Lib.hid (HB5_17.out.trans ((by rw [← HW18.out]; exact (Below.refl _ _).alloc (Nat.le_refl _) _ : Below W17.heap.size W17 W18).mono HB5_17.out.size))
          have HB6_18 : Hid (Below W6.heap.size W6 W18) := Lib.hid (HB6_17.out.trans ((by rw [← HW18.out]; exact (Below.refl _ _).alloc (Nat.le_refl _) _ : Below W17.heap.size W17 W18).mono HB6_17.out.size))
          have HB7_18 : Hid (Below W7.heap.size W7 W18) := Lib.hid (HB7_17.out.trans ((by rw [← HW18.out]; exact (Below.refl _ _).alloc (Nat.le_refl _) _ : Below W17.heap.size W17 W18).mono HB7_17.out.size))
          have HB8_18 : Hid (Below W8.heap.size W8 W18) := Lib.hid (HB8_17.out.trans ((by rw [← HW18.out]; exact (Below.refl _ _).alloc (Nat.le_refl _) _ : Below W17.heap.size W17 W18).mono HB8_17.out.size))
          have HB9_18 : Hid (Below W9.heap.size W9 W18) := Lib.hid (HB9_17.out.trans ((by rw [← HW18.out]; exact (Below.refl _ _).alloc (Nat.le_refl _) _ : Below W17.heap.size W17 W18).mono HB9_17.out.size))
          have HB10_18 : Hid (Below W10.heap.size W10 W18) := Lib.hid (HB10_17.out.trans ((by rw [← HW18.out]; exact (Below.refl _ _).alloc (Nat.le_refl _) _ : Below W17.heap.size W17 W18).mono HB10_17.out.size))
          have HB11_18 : Hid (Below W11.heap.size W11 W18) := Lib.hid (HB11_17.out.trans ((by rw [← HW18.out]; exact (Below.refl _ _).alloc (Nat.le_refl _) _ : Below W17.heap.size W17 W18).mono HB11_17.out.size))
          have HB12_18 : Hid (Below W12.heap.size W12 W18) := Lib.hid (HB12_17.out.trans ((by rw [← HW18.out]; exact (Below.refl _ _).alloc (Nat.le_refl _) _ : Below W17.heap.size W17 W18).mono HB12_17.out.size))
          have HB13_18 : Hid (Below W13.heap.size W13 W18) := Lib.hid (HB13_17.out.trans ((by rw [← HW18.out]; exact (Below.refl _ _).alloc (Nat.le_refl _) _ : Below W17.heap.size W17 W18).mono HB13_17.out.size))
          have HB14_18 : Hid (Below W14.heap.size W14 W18) := Lib.hid (HB14_17.out.trans ((by rw [← HW18.out]; exact (Below.refl _ _).alloc (Nat.le_refl _) _ : Below W17.heap.size W17 W18).mono HB14_17.out.size))
          have HB15_18 : Hid (Below W15.heap.size W15 W18) := Lib.hid (HB15_17.out.trans ((by rw [← HW18.out]; exact (Below.refl _ _).alloc (Nat.le_refl _) _ : Below W17.heap.size W17 W18).mono HB15_17.out.size))
          have HB16_18 : Hid (Below W16.heap.size W16 W18) := Lib.hid (HB16_17.out.trans ((by rw [← HW18.out]; exact (Below.refl _ _).alloc (Nat.le_refl _) _ : Below W17.heap.size W17 W18).mono HB16_17.out.size))
          have HB17_18 : Hid (Below W17.heap.size W17 W18) := Lib.hid (by rw [← HW18.out]; exact (Below.refl _ _).alloc (Nat.le_refl _) _)
          have HX_g : Hid (∀ W, Below W18.heap.size W18 W → W.heap[W17.heap.size]? = some (.cells #[.int .i64 2, .int .i64 5, .int .i64 k, .int .i64 x0, .int .i64 x1, .int .i64 x2, .int .i64 x3, .int .i64 x4, .int .i64 x5] 33 (0, 0))) := Lib.hid (fun W hb => (hb.block _ (by rw [← HW18.out]; simp)).trans (by rw [← HW18.out]; exact heap_alloc_new _ _))
          go_wp2_with fail
          refine Calls.mono (of_is 2 5 k x0 x1 x2 x3 x4 x5 HF1.out.1 HFX.out HU1.out _) ?_
          rintro e19 W19 ⟨rfl, hb⟩
          rw [HW18.out] at hb
          have HB0_19 : Hid (Below W0.heap.size W0 W19) := Lib.hid (HB0_18.out.trans ((hb : Below W18.heap.size W18 W19).mono HB0_18.out.size))
          have HB4_19 : Hid (Below W4.heap.size W4 W19) := Lib.hid (HB4_18.out.trans ((hb : Below W18.heap.size W18 W19).mono HB4_18.out.size))
          have HB5_19 : Hid (Below W5.heap.size W5 W19) := Lib.hid (HB5_18.out.trans ((hb : Below W18.heap.size W18 W19).mono HB5_18.out.size))
          have HB6_19 : Hid (Below W6.heap.size W6 W19) := Lib.hid (HB6_18.out.trans ((hb : Below W18.heap.size W18 W19).mono HB6_18.out.size))
          have HB7_19 : Hid (Below W7.heap.size W7 W19) := Lib.hid (HB7_18.out.trans ((hb : Below W18.heap.size W18 W19).mono HB7_18.out.size))
          have HB8_19 : Hid (Below W8.heap.size W8 W19) := Lib.hid (HB8_18.out.trans ((hb : Below W18.heap.size W18 W19).mono HB8_18.out.size))
          have HB9_19 : Hid (Below W9.heap.size W9 W19) := Lib.hid (HB9_18.out.trans ((hb : Below W18.heap.size W18 W19).mono HB9_18.out.size))
          have HB10_19 : Hid (Below W10.heap.size W10 W19) := Lib.hid (HB10_18.out.trans ((hb : Below W18.heap.size W18 W19).mono HB10_18.out.size))
          have HB11_19 : Hid (Below W11.heap.size W11 W19) := Lib.hid (HB11_18.out.trans ((hb : Below W18.heap.size W18 W19).mono HB11_18.out.size))
          have HB12_19 : Hid (Below W12.heap.size W12 W19) := Lib.hid (HB12_18.out.trans ((hb : Below W18.heap.size W18 W19).mono HB12_18.out.size))
          have HB13_19 : Hid (Below W13.heap.size W13 W19) := Lib.hid (HB13_18.out.trans ((hb : Below W18.heap.size W18 W19).mono HB13_18.out.size))
          have HB14_19 : Hid (Below W14.heap.size W14 W19) := Lib.hid (HB14_18.out.trans ((hb : Below W18.heap.size W18 W19).mono HB14_18.out.size))
          have HB15_19 : Hid (Below W15.heap.size W15 W19) := Lib.hid (HB15_18.out.trans ((hb : Below W18.heap.size W18 W19).mono HB15_18.out.size))
          have HB16_19 : Hid (Below W16.heap.size W16 W19) := Lib.hid (HB16_18.out.trans ((hb : Below W18.heap.size W18 W19).mono HB16_18.out.size))
          have HB17_19 : Hid (Below W17.heap.size W17 W19) := Lib.hid (HB17_18.out.trans ((hb : Below W18.heap.size W18 W19).mono HB17_18.out.size))
          have HB18_19 : Hid (Below W18.heap.size W18 W19) := Lib.hid (hb)
          clear hb
          obtain ⟨W20, HW20⟩ : ∃ W, Hid ((W19.alloc (.cells #[.int .i64 k, .int .i64 o, .int .i64 a, .int .i64 y, .int .i64 d, .int .i64 q, .int .i64 p, .int .i64 l, .int .i64 s, .int .i64 n, .bool on, .int .i64 z, .int .i64 t] 23)) = W) := ⟨_, Lib.hid rfl⟩
          have HB0_20 : Hid (Below W0.heap.size W0 W20) := Lib.hid (HB0_19.out.trans ((by rw [← HW20.out]; exact (Below.refl _ _).alloc (Nat.le_refl _) _ : Below W19.heap.size W19 W20).mono HB0_19.out.size))
          have HB4_20 : Hid (Below W4.heap.size W4 W20) := Lib.hid (HB4_19.out.trans ((by rw [← HW20.out]; exact (Below.refl _ _).alloc (Nat.le_refl _) _ : Below W19.heap.size W19 W20).mono HB4_19.out.size))
          have HB5_20 : Hid (Below W5.heap.size W5 W20) := Lib.hid (HB5_19.out.trans ((by rw [← HW20.out]; exact (Below.refl _ _).alloc (Nat.le_refl _) _ : Below W19.heap.size W19 W20).mono HB5_19.out.size))
          have HB6_20 : Hid (Below W6.heap.size W6 W20) := Lib.hid (HB6_19.out.trans ((by rw [← HW20.out]; exact (Below.refl _ _).alloc (Nat.le_refl _) _ : Below W19.heap.size W19 W20).mono HB6_19.out.size))
          have HB7_20 : Hid (Below W7.heap.size W7 W20) := Lib.hid (HB7_19.out.trans ((by rw [← HW20.out]; exact (Below.refl _ _).alloc (Nat.le_refl _) _ : Below W19.heap.size W19 W20).mono HB7_19.out.size))
          have HB8_20 : Hid (Below W8.heap.size W8 W20) := Lib.hid (HB8_19.out.trans ((by rw [← HW20.out]; exact (Below.refl _ _).alloc (Nat.le_refl _) _ : Below W19.heap.size W19 W20).mono HB8_19.out.size))
          have HB9_20 : Hid (Below W9.heap.size W9 W20) := Lib.hid (HB9_19.out.trans ((by rw [← HW20.out]; exact (Below.refl _ _).alloc (Nat.le_refl _) _ : Below W19.heap.size W19 W20).mono HB9_19.out.size))
          have HB10_20 : Hid (Below W10.heap.size W10 W20) := Lib.hid (HB10_19.out.trans ((by rw [← HW20.out]; exact (Below.refl _ _).alloc (Nat.le_refl _) _ : Below W19.heap.size W19 W20).mono HB10_19.out.size))
          have HB11_20 : Hid (Below W11.heap.size W11 W20) := Lib.hid (HB11_19.out.trans ((by rw [← HW20.out]; exact (Below.refl _ _).alloc (Nat.le_refl _) _ : Below W19.heap.size W19 W20).mono HB11_19.out.size))
          have HB12_20 : Hid (Below W12.heap.size W12 W20) := Lib.hid (HB12_19.out.trans ((by rw [← HW20.out]; exact (Below.refl _ _).alloc (Nat.le_refl _) _ : Below W19.heap.size W19 W20).mono HB12_19.out.size))
          have HB13_20 : Hid (Below W13.heap.size W13 W20) := Lib.hid (HB13_19.out.trans ((by rw [← HW20.out]; exact (Below.refl _ _).alloc (Nat.le_refl _) _ : Below W19.heap.size W19 W20).mono HB13_19.out.size))
          have HB14_20 : Hid (Below W14.heap.size W14 W20) := Lib.hid (HB14_19.out.trans ((by rw [← HW20.out]; exact (Below.refl _ _).alloc (Nat.le_refl _) _ : Below W19.heap.size W19 W20).mono HB14_19.out.size))
          have HB15_20 : Hid (Below W15.heap.size W15 W20) := Lib.hid (HB15_19.out.trans ((by rw [← HW20.out]; exact (Below.refl _ _).alloc (Nat.le_refl _) _ : Below W19.heap.size W19 W20).mono HB15_19.out.size))
          have HB16_20 : Hid (Below W16.heap.size W16 W20) := Lib.hid (HB16_19.out.trans ((by rw [← HW20.out]; exact (Below.refl _ _).alloc (Nat.le_refl _) _ : Below W19.heap.size W19 W20).mono HB16_19.out.size))
          have HB17_20 : Hid (Below W17.heap.size W17 W20) := Lib.hid (HB17_19.out.trans ((by rw [← HW20.out]; exact (Below.refl _ _).alloc (Nat.le_refl _) _ : Below W19.heap.size W19 W20).mono HB17_19.out.size))
          have HB18_20 : Hid (Below W18.heap.size W18 W20) := Lib.hid (HB18_19.out.trans ((by rw [← HW20.out]; exact (Below.refl _ _).alloc (Nat.le_refl _) _ : Below W19.heap.size W19 W20).mono HB18_19.out.size))
          have HB19_20 : Hid (Below W19.heap.size W19 W20) := Lib.hid (by rw [← HW20.out]; exact (Below.refl _ _).alloc (Nat.le_refl _) _)
          have HX_o : Hid (∀ W, Below W20.heap.size W20 W → W.heap[W19.heap.size]? = some (.cells #[.int .i64 k, .int .i64 o, .int .i64 a, .int .i64 y, .int .i64 d, .int .i64 q, .int .i64 p, .int .i64 l, .int .i64 s, .int .i64 n, .bool on, .int .i64 z, .int .i64 t] 23 (0, 0))) := Lib.hid (fun W hb => (hb.block _ (by rw [← HW20.out]; simp)).trans (by rw [← HW20.out]; exact heap_alloc_new _ _))
          obtain ⟨p0, p1, p2, p3, p4, p5, p6, p7, p8, p9, p10, p11, p12⟩ := cells13 (HX0.out W20 HB0_20.out)
          rw [← HW20.out] at p0 p1 p2 p3 p4 p5 p6 p7 p8 p9 p10 p11 p12
          go_wp2_with fail
          go_ret
          exact ⟨rfl, by rw [HW20.out]; exact HBW.out.trans (HB0_20.out.mono HBW.out.size)⟩
  -- WALK ENDS

set_option maxRecDepth 100000 in
theorem lifted (os : Os) (started : os.Started) (H : Type) (enc : TypeId × Value → H) :
    ReturnsInHanded {} Try.checked os 4 .any (Rows.recBackSpec.pre6 enc Try.prog Try.f4 Rows.recBackRow.domain false) (Rows.recBackSpec.post enc Try.prog Try.f4 false true false false) := by
  refine returnsInHanded_of_change (C := Try.checked) own started (by kernel_rfl) Try.func4
    (ChangeSpec.witness6 (enc := enc) (C := Try.checked) false ⟨#[], #[.agg #[.int .i64 0, .int .i64 0, .int .i64 0, .int .i64 0, .int .i64 0, .int .i64 0, .int .i64 0, .int .i64 0, .int .i64 0, .int .i64 0, .bool false, .int .i64 0, .int .i64 0], .agg #[.int .i64 0, .int .i64 0, .int .i64 0, .int .i64 0, .int .i64 0, .int .i64 0, .int .i64 0, .int .i64 0, .int .i64 0, .int .i64 0, .bool false, .int .i64 0, .int .i64 0], .int .i64 0, .agg #[.int .i64 0, .int .i64 0, .int .i64 0, .int .i64 0, .int .i64 0, .int .i64 0]], []⟩ 8 (by kernel_rfl) (by kernel_rfl) (by kernel_rfl) (by kernel_rfl)) ?_
  intro W base args ds gs before hval0 hW hcnd _
  have hval : ∀ (j : Nat) t v, Try.f4.params[j]? = some t → args[j]? = some v → Value.okWide Try.prog W .any base t v := hval0
  have hW' := hW
  obtain ⟨p, q, hA0, hV, rfl, hfz, hnd⟩ := hW
  have hA : DataW.TrodAll enc Try.prog W 0 (fun _ => true) true Try.f4.params.toList args.toList ds p := hA0
  rw [Try.params4] at hA hval
  obtain ⟨v0, vs0, d0, ds0, p0_, q0, hargs, rfl, rfl, h0, r0⟩ := trodAll_cons hA
  obtain ⟨v1, vs1, d1, ds1, p1_, q1, rfl, rfl, rfl, h1, r1⟩ := trodAll_cons r0
  obtain ⟨v2, vs2, d2, ds2, p2_, q2, rfl, rfl, rfl, h2, r2⟩ := trodAll_cons r1
  obtain ⟨v3, vs3, d3, ds3, p3_, q3, rfl, rfl, rfl, h3, r3⟩ := trodAll_cons r2
  obtain ⟨rfl, rfl, rfl⟩ := trodAll_nil r3
  obtain rfl : args = #[v0, v1, v2, v3] := by cases args; simp_all
  obtain ⟨rfl, rfl⟩ := trodVars_none hV
  obtain ⟨cs0, rfl, hsz0⟩ := okWide_struct Try.underlying23 (hval 0 23 v0 rfl rfl)
  have k0 := h0
  have lt0 : ∀ x ∈ p0_, x.block < W.heap.size := by obtain ⟨m, hm⟩ := k0; exact DataW.trod_lt m _ _ _ hm
  obtain ⟨x0, w0⟩ := of_arg of_rec k0
  obtain ⟨cs1, rfl, hsz1⟩ := okWide_struct Try.underlying23 (hval 1 23 v1 rfl rfl)
  have k1 := h1
  have lt1 : ∀ x ∈ p1_, x.block < W.heap.size := by obtain ⟨m, hm⟩ := k1; exact DataW.trod_lt m _ _ _ hm
  obtain ⟨x1, w1⟩ := of_arg of_rec k1
  obtain ⟨a2, rfl, rfl, rfl, w2⟩ := open_int Try.underlying3 (hval 2 3 v2 rfl rfl) h2
  obtain ⟨cs3, rfl, hsz3⟩ := okWide_array Try.underlying24 (hval 3 24 v3 rfl rfl)
  have k3 := h3
  have lt3 : ∀ x ∈ p3_, x.block < W.heap.size := by obtain ⟨m, hm⟩ := k3; exact DataW.trod_lt m _ _ _ hm
  obtain ⟨x3, w3⟩ := of_arg (of_arr (n := 6) (size := 1) (of_int Try.underlying2) Try.underlying24 (by kernel_rfl) (by kernel_rfl)) k3
  clear hA0 hval0
  refine (walk cs0 x0 cs1 x1 a2 cs3 x3 W w0 w1 w2 w3).mono fun e W' ⟨he, bel⟩ => ?_
  subst he
  exact ⟨_, rfl, _, _, _, [], _, [], hW', trodAll_mk1 (shut_bool Try.underlying4 _), (trodAll_cons_mk (Below.trod laidOut (by kernel_rfl) (of_decide_eq_true (by kernel_rfl)) k0 bel lt0) (trodAll_cons_mk (Below.trod laidOut (by kernel_rfl) (of_decide_eq_true (by kernel_rfl)) k1 bel lt1) (trodAll_cons_mk (shut_int Try.underlying3 w2) (trodAll_cons_mk (Below.trod laidOut (by kernel_rfl) (of_decide_eq_true (by kernel_rfl)) k3 bel lt3) trodAll_mk0)))), rfl, bel.frame _, fun h => by cases h⟩

theorem over : Rows.recBackRow.holds Try.pinned (OpenSpec.ofChange Rows.recBackSpec) :=
  OpenClaim.holds_of_wide 4 Try.f4 rfl rfl rfl rfl rfl rfl rfl ⟨rfl, rfl, rfl, rfl, rfl⟩ rfl rfl rfl rfl rfl (by kernel_rfl) Try.func4 (by kernel_rfl)
    (of_decide_eq_true (by kernel_rfl)) (by unfold Func.isWrapper; first | (rw [if_pos (by decide +kernel)]; kernel_rfl) | (rw [if_neg (by decide +kernel)]; exact ⟨rfl, rfl⟩))
    (fun os started H enc _ => lifted os started H enc)

theorem proved : Rows.RecBackSaid := over
#print axioms proved
end Go.Proofs.Ytbahlgijiglbdaa.recBack
