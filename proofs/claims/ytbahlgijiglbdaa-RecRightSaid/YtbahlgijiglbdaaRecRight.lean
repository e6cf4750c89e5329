/-
  PROVED: the law RecRight answers true at every input, and leaves what it was given as it was.
  CONDITIONS: none.
-/
import Derived.Test.YtbahlgijiglbdaaRows
import Derived.WalkKit
import Derived.ProofKit
import Derived.OpenShut
import Derived.ShutString
import Derived.ChangeOld
import Derived.Below
import Derived.Test.YtbahlgijiglbdaaFrameImpl4
import Derived.Test.YtbahlgijiglbdaaRecRefP
import Derived.Test.YtbahlgijiglbdaaRecRefU
import Derived.Deep.RegionHeld
import Derived.Deep.DrawnRows
import Derived.Deep.DeepCutAuto
import Derived.Test.YtbahlgijiglbdaaAwake06
import Derived.Test.YtbahlgijiglbdaaApi06
namespace Go.Proofs.Ytbahlgijiglbdaa.recRight
open Go.ChangeShapes Go.WideShapes Go.ChangeAt Go.RowKit
open Go.ChangeMaps (open_string shut_string)
open Go.Proofs.Ytbahlgijiglbdaa Go.Proofs.Ytbahlgijiglbdaa.rec
attribute [local go_sem] undef
attribute [local go_sem ↓] Go.wp_at_zero Go.wp_at_succ
set_option linter.unusedVariables false

theorem own : ownKnob Try.prog.godebug = none := by kernel_rfl
theorem laidOut : laidOutB Try.prog = true := by kernel_rfl

theorem cells5 {W : World} {g : Nat} {T : TypeId} {a b c d e : Int} (h : W.heap[g]? = some (.cells #[.int .i64 a, .int .i64 b, .int .i64 c, .int .i64 d, .int .i64 e] T (0, 0))) :
    W.cell? ⟨g, 0, none⟩ = some (.int .i64 a) ∧ W.cell? ⟨g, 1, none⟩ = some (.int .i64 b) ∧ W.cell? ⟨g, 2, none⟩ = some (.int .i64 c) ∧ W.cell? ⟨g, 3, none⟩ = some (.int .i64 d) ∧ W.cell? ⟨g, 4, none⟩ = some (.int .i64 e) :=
  ⟨(block_cell h 0 _ rfl).1, (block_cell h 1 _ rfl).1, (block_cell h 2 _ rfl).1, (block_cell h 3 _ rfl).1, (block_cell h 4 _ rfl).1⟩

set_option maxHeartbeats 4000000 in
set_option maxRecDepth 100000 in
theorem walk (cs0 : Array Value) (x0 : RecD) (a1 : Int) (cs2 : Array Value) (x2 : List (Int)) (cs3 : Array Value) (x3 : NoteD) (a4 : Int) (a5 : Int) (w : World) (w0 : rdRec w (Lt w.heap.size) cs0.toList x0) (w1 : (Lit.int .i64 a1).wf = true) (w2 : (rdArr (rdInt .i64) 6 1) w (Lt w.heap.size) cs2.toList x2) (w3 : rdNote w (Lt w.heap.size) cs3.toList x3) (w4 : (Lit.int .i64 a4).wf = true) (w5 : (Lit.int .i64 a5).wf = true) :
    Calls Try.prog 3 #[.agg cs0, .int .i64 a1, .agg cs2, .agg cs3, .int .i64 a4, .int .i64 a5] w fun e w' => e = .returned (.bool true) ∧ Below w.heap.size w w' := by
  -- WALK BEGINS
  obtain ⟨hc0, hf0⟩ := w0
  obtain rfl : cs0 = rec.rc x0 := by apply Array.toList_inj.1; exact hc0
  clear hc0
  obtain ⟨k, o, a, y, d, q, p, l, s, n, on, z, t⟩ := x0
  obtain ⟨bs, hc2, hf2⟩ := six_of w2
  obtain rfl : cs2 = rec.nc bs := by apply Array.toList_inj.1; exact hc2
  clear hc2 w2
  obtain ⟨b0, b1, b2, b3, b4, b5⟩ := bs
  obtain ⟨hc3, hf3⟩ := w3
  obtain rfl : cs3 = nt x3 := by apply Array.toList_inj.1; exact hc3
  clear hc3
  obtain ⟨zN, tN, oN, qN, pN⟩ := x3
  have hk1 : frame.inR a1 := inI_of_wf w1
  have hk4 : frame.inR a4 := inI_of_wf w4
  have hk5 : frame.inR a5 := inI_of_wf w5
  show Calls Try.prog 3 #[.agg #[.int .i64 k, .int .i64 o, .int .i64 a, .int .i64 y, .int .i64 d, .int .i64 q, .int .i64 p, .int .i64 l, .int .i64 s, .int .i64 n, .bool on, .int .i64 z, .int .i64 t], .int .i64 a1, .agg #[.int .i64 b0, .int .i64 b1, .int .i64 b2, .int .i64 b3, .int .i64 b4, .int .i64 b5], .agg #[.int .i64 zN, .int .i64 tN, .int .i64 oN, .int .i64 qN, .int .i64 pN], .int .i64 a4, .int .i64 a5] w _
  obtain ⟨W0, HW0⟩ : ∃ W, Hid ((((w.alloc (.cells #[.int .i64 k, .int .i64 o, .int .i64 a, .int .i64 y, .int .i64 d, .int .i64 q, .int .i64 p, .int .i64 l, .int .i64 s, .int .i64 n, .bool on, .int .i64 z, .int .i64 t] 23)).alloc (.cells #[.int .i64 b0, .int .i64 b1, .int .i64 b2, .int .i64 b3, .int .i64 b4, .int .i64 b5] 24)).alloc (.cells #[.int .i64 zN, .int .i64 tN, .int .i64 oN, .int .i64 qN, .int .i64 pN] 26)) = W) := ⟨_, Lib.hid rfl⟩
  have HBW : Hid (Below w.heap.size w W0) := Lib.hid (by rw [← HW0.out]; exact (((Below.refl _ _).alloc (by simp) _).alloc (by simp; try omega) _).alloc (by simp; try omega) _)
  have HX0 : Hid (∀ W, Below W0.heap.size W0 W → W.heap[w.heap.size]? = some (.cells #[.int .i64 k, .int .i64 o, .int .i64 a, .int .i64 y, .int .i64 d, .int .i64 q, .int .i64 p, .int .i64 l, .int .i64 s, .int .i64 n, .bool on, .int .i64 z, .int .i64 t] 23 (0, 0))) := Lib.hid (fun W hb => (hb.block _ (by rw [← HW0.out]; simp; try omega)).trans (by rw [← HW0.out]; refine (Below.heap_alloc _ _ _ (by simp; try omega)).trans ?_; refine (Below.heap_alloc _ _ _ (by simp; try omega)).trans ?_; have := heap_alloc_new w (.cells #[.int .i64 k, .int .i64 o, .int .i64 a, .int .i64 y, .int .i64 d, .int .i64 q, .int .i64 p, .int .i64 l, .int .i64 s, .int .i64 n, .bool on, .int .i64 z, .int .i64 t] 23); exact this))
  have HX1 : Hid (∀ W, Below W0.heap.size W0 W → W.heap[w.heap.size + 1]? = some (.cells #[.int .i64 b0, .int .i64 b1, .int .i64 b2, .int .i64 b3, .int .i64 b4, .int .i64 b5] 24 (0, 0))) := Lib.hid (fun W hb => (hb.block _ (by rw [← HW0.out]; simp; try omega)).trans (by rw [← HW0.out]; refine (Below.heap_alloc _ _ _ (by simp; try omega)).trans ?_; have := heap_alloc_new (w.alloc (.cells #[.int .i64 k, .int .i64 o, .int .i64 a, .int .i64 y, .int .i64 d, .int .i64 q, .int .i64 p, .int .i64 l, .int .i64 s, .int .i64 n, .bool on, .int .i64 z, .int .i64 t] 23)) (.cells #[.int .i64 b0, .int .i64 b1, .int .i64 b2, .int .i64 b3, .int .i64 b4, .int .i64 b5] 24); simp only [World.size_alloc] at this; exact this))
  have HX2 : Hid (∀ W, Below W0.heap.size W0 W → W.heap[w.heap.size + 1 + 1]? = some (.cells #[.int .i64 zN, .int .i64 tN, .int .i64 oN, .int .i64 qN, .int .i64 pN] 26 (0, 0))) := Lib.hid (fun W hb => (hb.block _ (by rw [← HW0.out]; simp; try omega)).trans (by rw [← HW0.out]; have := heap_alloc_new ((w.alloc (.cells #[.int .i64 k, .int .i64 o, .int .i64 a, .int .i64 y, .int .i64 d, .int .i64 q, .int .i64 p, .int .i64 l, .int .i64 s, .int .i64 n, .bool on, .int .i64 z, .int .i64 t] 23)).alloc (.cells #[.int .i64 b0, .int .i64 b1, .int .i64 b2, .int .i64 b3, .int .i64 b4, .int .i64 b5] 24)) (.cells #[.int .i64 zN, .int .i64 tN, .int .i64 oN, .int .i64 qN, .int .i64 pN] 26); simp only [World.size_alloc] at this; exact this))
  have HF1 := Lib.hid hf0
  have HF6 := Lib.hid hf2
  have HFN := Lib.hid hf3
  have HK1 := Lib.hid hk1
  have HK4 := Lib.hid hk4
  have HK5 := Lib.hid hk5
  obtain ⟨⟨⟨kT, oT, aT, yT, dT, qT, pT, lT, sT, nT, onT, zT, tT⟩, ee⟩, hu⟩ : ∃ x, unp a1 ⟨b0, b1, b2, b3, b4, b5⟩ = x := ⟨_, rfl⟩
  have HU := Lib.hid hu
  have HFT : Hid ((⟨kT, oT, aT, yT, dT, qT, pT, lT, sT, nT, onT, zT, tT⟩ : Rc).fine) := Lib.hid (by have := unp_fine hk1 hf2; rw [hu] at this; exact this)
  have HE : Hid (ee = 0 ∨ ee = 2) := Lib.hid (by rcases unp_no hu with h | h; exact .inl h; exact .inr h.1)
  obtain ⟨m, HM⟩ : ∃ x, Hid (right ⟨k, o, a, y, d, q, p, l, s, n, on, z, t⟩ = x) := ⟨_, Lib.hid rfl⟩
  obtain ⟨⟨⟨x0, x1, x2, x3, x4, x5⟩, ep⟩, hp⟩ : ∃ x, pack ⟨k, o, a, y, d, q, p, l, s, n, on, z, t⟩ = x := ⟨_, rfl⟩
  obtain ⟨⟨⟨e0, l0, k0, f0, f1, f2, f3, f4, f5⟩, eg⟩, hg⟩ : ∃ x, framed ⟨k, o, a, y, d, q, p, l, s, n, on, z, t⟩ a4 a5 = x := ⟨_, rfl⟩
  have HPK := Lib.hid hp
  have HFR := Lib.hid hg
  have HY : Hid (m = true → nums ⟨k, o, a, y, d, q, p, l, s, n, on, z, t⟩ = ⟨x0, x1, x2, x3, x4, x5⟩ ∧ ep = 0 ∧ e0 = a5 ∧ l0 = a4 ∧ k0 = k ∧ f0 = x0 ∧ f1 = x1 ∧ f2 = x2 ∧ f3 = x3 ∧ f4 = x4 ∧ f5 = x5 ∧ eg = 0) := Lib.hid (fun hm => by
    have hr := HM.out.trans hm
    unfold pack at hp
    unfold framed at hg
    rw [if_pos hr] at hp hg
    simp only [Prod.mk.injEq] at hp hg
    obtain ⟨h1, h2⟩ := hp
    obtain ⟨h3, h4⟩ := hg
    unfold fr at h3
    rw [h1] at h3
    simp only [frame.Fr.mk.injEq] at h3
    refine ⟨h1, ?_⟩
    omega)
  have HNO : Hid (m = false → x0 = 0 ∧ x1 = 0 ∧ x2 = 0 ∧ x3 = 0 ∧ x4 = 0 ∧ x5 = 0 ∧ ep = 1 ∧ e0 = 0 ∧ l0 = 0 ∧ k0 = 0 ∧ f0 = 0 ∧ f1 = 0 ∧ f2 = 0 ∧ f3 = 0 ∧ f4 = 0 ∧ f5 = 0 ∧ eg = 1) := Lib.hid (fun hm => by
    have hr : ¬ right ⟨k, o, a, y, d, q, p, l, s, n, on, z, t⟩ = true := by rw [HM.out, hm]; simp
    unfold pack at hp
    unfold framed at hg
    rw [if_neg hr] at hp hg
    simp only [Prod.mk.injEq, nz, frame.zero, Ns.mk.injEq, frame.Fr.mk.injEq] at hp hg
    omega)
  clear hf0 hf2 hf3 hk1 hk4 hk5 hu hp hg w1 w4 w5
  go_enter Try.func3, Try.ntmps3
  go_wp2_with fail
  refine Calls.mono (awake_any _) ?_
  rintro e1 W1 ⟨rfl, hb⟩
  rw [HW0.out] at hb
  have HB0_1 : Hid (Below W0.heap.size W0 W1) := Lib.hid (hb)
  clear hb
  obtain ⟨p_0, p_1, p_2, p_3, p_4, p_5, p_6, p_7, p_8, p_9, p_10, p_11, p_12⟩ := cells13 (HX0.out W1 HB0_1.out)
  go_wp2_with fail
  refine Calls.mono (rright_is k o a y d q p l s n on z t HF1.out HM.out _) ?_
  rintro e2 W2 ⟨rfl, hb⟩
  have HB0_2 : Hid (Below W0.heap.size W0 W2) := Lib.hid (HB0_1.out.trans ((hb : Below W1.heap.size W1 W2).mono HB0_1.out.size))
  have HB1_2 : Hid (Below W1.heap.size W1 W2) := Lib.hid (hb)
  clear hb
  clear p_0 p_1 p_2 p_3 p_4 p_5 p_6 p_7 p_8 p_9 p_10 p_11 p_12
  obtain ⟨p_0, p_1, p_2, p_3, p_4, p_5, p_6, p_7, p_8, p_9, p_10, p_11, p_12⟩ := cells13 (HX0.out W2 HB0_2.out)
  go_wp2_with fail
  refine Calls.mono (pack_is k o a y d q p l s n on z t HF1.out HPK.out _) ?_
  rintro e3 W3 ⟨rfl, hb⟩
  have HB0_3 : Hid (Below W0.heap.size W0 W3) := Lib.hid (HB0_2.out.trans ((hb : Below W2.heap.size W2 W3).mono HB0_2.out.size))
  have HB1_3 : Hid (Below W1.heap.size W1 W3) := Lib.hid (HB1_2.out.trans ((hb : Below W2.heap.size W2 W3).mono HB1_2.out.size))
  have HB2_3 : Hid (Below W2.heap.size W2 W3) := Lib.hid (hb)
  clear hb
  clear p_0 p_1 p_2 p_3 p_4 p_5 p_6 p_7 p_8 p_9 p_10 p_11 p_12
  obtain ⟨W4, HW4⟩ : ∃ W, Hid ((W3.alloc (.cells #[.int .i64 x0, .int .i64 x1, .int .i64 x2, .int .i64 x3, .int .i64 x4, .int .i64 x5] 24)) = W) := ⟨_, Lib.hid rfl⟩
  have HB0_4 : Hid (Below W0.heap.size W0 W4) := Lib.hid (HB0_3.out.trans ((by rw [← HW4.out]; exact (Below.refl _ _).alloc (Nat.le_refl _) _ : Below W3.heap.size W3 W4).mono HB0_3.out.size))
  have HB1_4 : Hid (Below W1.heap.size W1 W4) := Lib.hid (HB1_3.out.trans ((by rw [← HW4.out]; exact (Below.refl _ _).alloc (Nat.le_refl _) _ : Below W3.heap.size W3 W4).mono HB1_3.out.size))
  have HB2_4 : Hid (Below W2.heap.size W2 W4) := Lib.hid (HB2_3.out.trans ((by rw [← HW4.out]; exact (Below.refl _ _).alloc (Nat.le_refl _) _ : Below W3.heap.size W3 W4).mono HB2_3.out.size))
  have HB3_4 : Hid (Below W3.heap.size W3 W4) := Lib.hid (by rw [← HW4.out]; exact (Below.refl _ _).alloc (Nat.le_refl _) _)
  have HX_x : Hid (∀ W, Below W4.heap.size W4 W → W.heap[W3.heap.size]? = some (.cells #[.int .i64 x0, .int .i64 x1, .int .i64 x2, .int .i64 x3, .int .i64 x4, .int .i64 x5] 24 (0, 0))) := Lib.hid (fun W hb => (hb.block _ (by rw [← HW4.out]; simp)).trans (by rw [← HW4.out]; exact heap_alloc_new _ _))
  obtain ⟨p_0, p_1, p_2, p_3, p_4, p_5, p_6, p_7, p_8, p_9, p_10, p_11, p_12⟩ := cells13 (HX0.out W4 HB0_4.out)
  rw [← HW4.out] at p_0 p_1 p_2 p_3 p_4 p_5 p_6 p_7 p_8 p_9 p_10 p_11 p_12
  go_wp2_with fail
  refine Calls.mono (frame_is k o a y d q p l s n on z t a4 a5 HF1.out HFR.out _) ?_
  rintro e5 W5 ⟨rfl, hb⟩
  rw [HW4.out] at hb
  have HB0_5 : Hid (Below W0.heap.size W0 W5) := Lib.hid (HB0_4.out.trans ((hb : Below W4.heap.size W4 W5).mono HB0_4.out.size))
  have HB1_5 : Hid (Below W1.heap.size W1 W5) := Lib.hid (HB1_4.out.trans ((hb : Below W4.heap.size W4 W5).mono HB1_4.out.size))
  have HB2_5 : Hid (Below W2.heap.size W2 W5) := Lib.hid (HB2_4.out.trans ((hb : Below W4.heap.size W4 W5).mono HB2_4.out.size))
  have HB3_5 : Hid (Below W3.heap.size W3 W5) := Lib.hid (HB3_4.out.trans ((hb : Below W4.heap.size W4 W5).mono HB3_4.out.size))
  have HB4_5 : Hid (Below W4.heap.size W4 W5) := Lib.hid (hb)
  clear hb
  clear p_0 p_1 p_2 p_3 p_4 p_5 p_6 p_7 p_8 p_9 p_10 p_11 p_12
  obtain ⟨W6, HW6⟩ : ∃ W, Hid ((W5.alloc (.cells #[.int .i64 e0, .int .i64 l0, .int .i64 k0, .int .i64 f0, .int .i64 f1, .int .i64 f2, .int .i64 f3, .int .i64 f4, .int .i64 f5] 33)) = W) := ⟨_, Lib.hid rfl⟩
  have HB0_6 : Hid (Below W0.heap.size W0 W6) := Lib.hid (HB0_5.out.trans ((by rw [← HW6.out]; exact (Below.refl _ _).alloc (Nat.le_refl _) _ : Below W5.heap.size W5 W6).mono HB0_5.out.size))
  have HB1_6 : Hid (Below W1.heap.size W1 W6) := Lib.hid (HB1_5.out.trans ((by rw [← HW6.out]; exact (Below.refl _ _).alloc (Nat.le_refl _) _ : Below W5.heap.size W5 W6).mono HB1_5.out.size))
  have HB2_6 : Hid (Below W2.heap.size W2 W6) := Lib.hid (HB2_5.out.trans ((by rw [← HW6.out]; exact (Below.refl _ _).alloc (Nat.le_refl _) _ : Below W5.heap.size W5 W6).mono HB2_5.out.size))
  have HB3_6 : Hid (Below W3.heap.size W3 W6) := Lib.hid (HB3_5.out.trans ((by rw [← HW6.out]; exact (Below.refl _ _).alloc (Nat.le_refl _) _ : Below W5.heap.size W5 W6).mono HB3_5.out.size))
  have HB4_6 : Hid (Below W4.heap.size W4 W6) := Lib.hid (HB4_5.out.trans ((by rw [← HW6.out]; exact (Below.refl _ _).alloc (Nat.le_refl _) _ : Below W5.heap.size W5 W6).mono HB4_5.out.size))
  have HB5_6 : Hid (Below W5.heap.size W5 W6) := Lib.hid (by rw [← HW6.out]; exact (Below.refl _ _).alloc (Nat.le_refl _) _)
  have HX_f : Hid (∀ W, Below W6.heap.size W6 W → W.heap[W5.heap.size]? = some (.cells #[.int .i64 e0, .int .i64 l0, .int .i64 k0, .int .i64 f0, .int .i64 f1, .int .i64 f2, .int .i64 f3, .int .i64 f4, .int .i64 f5] 33 (0, 0))) := Lib.hid (fun W hb => (hb.block _ (by rw [← HW6.out]; simp)).trans (by rw [← HW6.out]; exact heap_alloc_new _ _))
  go_upto_region 6 with fail
  have heqn : ∀ W, (Op.equalIn 10000 23 (.agg #[.int .i64 6, .int .i64 oN, .int .i64 0, .int .i64 0, .int .i64 0, .int .i64 qN, .int .i64 pN, .int .i64 0, .int .i64 0, .int .i64 0, .bool false, .int .i64 zN, .int .i64 tN]) (.agg #[.int .i64 6, .int .i64 oN, .int .i64 0, .int .i64 0, .int .i64 0, .int .i64 qN, .int .i64 pN, .int .i64 0, .int .i64 0, .int .i64 0, .bool false, .int .i64 zN, .int .i64 tN])).run Try.prog W = .ok true W := fun W => by
    have hfn : (⟨6, oN, 0, 0, 0, qN, pN, 0, 0, 0, false, zN, tN⟩ : Rc).fine := by have h := HFN.out; obtain ⟨g1, g2, g3, g4, g5⟩ := h; exact ⟨by simp [frame.inR], g3, in0, in0, in0, g4, g5, in0, in0, in0, g1, g2⟩
    exact eq13_of rfl rfl hfn hfn (decide_eq_true rfl) W
  go_cut [50] (fun s wx => s = .bool false ∧ Below W6.heap.size W6 wx)
  case first =>
    rw [HW6.out]
    refine wp_region_held_drew (S := fun W => Below W6.heap.size W6 W) (by kernel_rfl) (Below.refl _ _).drew (fun _ => ?_)
    obtain ⟨W7, hW7⟩ : ∃ x, x = W6.drew := ⟨_, rfl⟩
    rw [← hW7]
    have HB0_7 : Hid (Below W0.heap.size W0 W7) := Lib.hid (HB0_6.out.trans ((by rw [hW7]; exact (Below.refl _ _).drew : Below W6.heap.size W6 W7).mono HB0_6.out.size))
    have HB1_7 : Hid (Below W1.heap.size W1 W7) := Lib.hid (HB1_6.out.trans ((by rw [hW7]; exact (Below.refl _ _).drew : Below W6.heap.size W6 W7).mono HB1_6.out.size))
    have HB2_7 : Hid (Below W2.heap.size W2 W7) := Lib.hid (HB2_6.out.trans ((by rw [hW7]; exact (Below.refl _ _).drew : Below W6.heap.size W6 W7).mono HB2_6.out.size))
    have HB3_7 : Hid (Below W3.heap.size W3 W7) := Lib.hid (HB3_6.out.trans ((by rw [hW7]; exact (Below.refl _ _).drew : Below W6.heap.size W6 W7).mono HB3_6.out.size))
    have HB4_7 : Hid (Below W4.heap.size W4 W7) := Lib.hid (HB4_6.out.trans ((by rw [hW7]; exact (Below.refl _ _).drew : Below W6.heap.size W6 W7).mono HB4_6.out.size))
    have HB5_7 : Hid (Below W5.heap.size W5 W7) := Lib.hid (HB5_6.out.trans ((by rw [hW7]; exact (Below.refl _ _).drew : Below W6.heap.size W6 W7).mono HB5_6.out.size))
    have HB6_7 : Hid (Below W6.heap.size W6 W7) := Lib.hid (by rw [hW7]; exact (Below.refl _ _).drew)
    clear hW7
    refine wpAnyH_take (i := 0) (v := .agg #[.int .i64 k, .int .i64 o, .int .i64 a, .int .i64 y, .int .i64 d, .int .i64 q, .int .i64 p, .int .i64 l, .int .i64 s, .int .i64 n, .bool on, .int .i64 z, .int .i64 t]) rfl (by kernel_rfl) (by kernel_rfl) (by kernel_rfl) (fun _ _ _ h => h) (Or.inl ⟨by kernel_rfl, ?h0⟩) HB6_7.out ?_
    case h0 => (intro W9 hW9; obtain ⟨y0_0, y0_1, y0_2, y0_3, y0_4, y0_5, y0_6, y0_7, y0_8, y0_9, y0_10, y0_11, y0_12⟩ := cells13 (HX0.out W9 (HB0_6.out.trans ((show Below W6.heap.size W6 W9 from hW9).mono HB0_6.out.size))); go_simp)
    go_simp
    refine wpAnyH_take (i := 2) (v := .bool m) rfl (by kernel_rfl) (by kernel_rfl) (by kernel_rfl) (fun _ _ _ h => h) (Or.inl ⟨by kernel_rfl, ?h2⟩) HB6_7.out ?_
    case h2 => (intro W9 hW9; go_simp)
    go_simp
    refine wpAnyH_ready (rs := [1]) (by kernel_rfl) (by simp) ?_
    refine AllReadyH.cons rfl (fun K hK => ?_) AllReadyH.nil
    go_simp
    go_wp2_with (refine Calls.mono (right_is k o a y d q p l s n on z t HF1.out HM.out _) ?_; rintro e8 W8 ⟨rfl, hb⟩)
    have HB0_8 : Hid (Below W0.heap.size W0 W8) := Lib.hid (HB0_7.out.trans ((hb : Below W7.heap.size W7 W8).mono HB0_7.out.size))
    have HB1_8 : Hid (Below W1.heap.size W1 W8) := Lib.hid (HB1_7.out.trans ((hb : Below W7.heap.size W7 W8).mono HB1_7.out.size))
    have HB2_8 : Hid (Below W2.heap.size W2 W8) := Lib.hid (HB2_7.out.trans ((hb : Below W7.heap.size W7 W8).mono HB2_7.out.size))
    have HB3_8 : Hid (Below W3.heap.size W3 W8) := Lib.hid (HB3_7.out.trans ((hb : Below W7.heap.size W7 W8).mono HB3_7.out.size))
    have HB4_8 : Hid (Below W4.heap.size W4 W8) := Lib.hid (HB4_7.out.trans ((hb : Below W7.heap.size W7 W8).mono HB4_7.out.size))
    have HB5_8 : Hid (Below W5.heap.size W5 W8) := Lib.hid (HB5_7.out.trans ((hb : Below W7.heap.size W7 W8).mono HB5_7.out.size))
    have HB6_8 : Hid (Below W6.heap.size W6 W8) := Lib.hid (HB6_7.out.trans ((hb : Below W7.heap.size W7 W8).mono HB6_7.out.size))
    have HB7_8 : Hid (Below W7.heap.size W7 W8) := Lib.hid (hb)
    clear hb
    refine hK.out _ _ HB6_8.out (fun _ => ?_)
    clear hK K
    go_simp
    refine wpAnyH_take (i := 3) (v := .bool false) rfl (by kernel_rfl) (by kernel_rfl) (by kernel_rfl) (fun _ _ _ h => h) (Or.inl ⟨by kernel_rfl, ?h3⟩) HB6_8.out ?_
    case h3 => (intro W9 hW9; go_simp)
    go_simp
    refine wpAnyH_take (i := 4) (v := .bool false) rfl (by kernel_rfl) (by kernel_rfl) (by kernel_rfl) (fun _ _ _ h => h) (Or.inl ⟨by kernel_rfl, ?h4⟩) HB6_8.out ?_
    case h4 => (intro W9 hW9; go_simp)
    go_simp
    refine wpAnyH_take (i := 5) (v := .agg #[.int .i64 zN, .int .i64 tN, .int .i64 oN, .int .i64 qN, .int .i64 pN]) rfl (by kernel_rfl) (by kernel_rfl) (by kernel_rfl) (fun _ _ _ h => h) (Or.inl ⟨by kernel_rfl, ?h5⟩) HB6_8.out ?_
    case h5 => (intro W9 hW9; obtain ⟨y0_0, y0_1, y0_2, y0_3, y0_4⟩ := cells5 (HX2.out W9 (HB0_6.out.trans ((show Below W6.heap.size W6 W9 from hW9).mono HB0_6.out.size))); go_simp)
    go_simp
    refine wpAnyH_take (i := 7) (v := .agg #[.int .i64 zN, .int .i64 tN, .int .i64 oN, .int .i64 qN, .int .i64 pN]) rfl (by kernel_rfl) (by kernel_rfl) (by kernel_rfl) (fun _ _ _ h => h) (Or.inl ⟨by kernel_rfl, ?h7⟩) HB6_8.out ?_
    case h7 => (intro W9 hW9; obtain ⟨y0_0, y0_1, y0_2, y0_3, y0_4⟩ := cells5 (HX2.out W9 (HB0_6.out.trans ((show Below W6.heap.size W6 W9 from hW9).mono HB0_6.out.size))); go_simp)
    go_simp
    refine wpAnyH_ready (rs := [6]) (by kernel_rfl) (by simp) ?_
    refine AllReadyH.cons rfl (fun K hK => ?_) AllReadyH.nil
    go_simp
    go_wp2_with (refine Calls.mono (ofNote_any zN tN oN qN pN _) ?_; rintro e9 W9 ⟨rfl, hb⟩)
    have HB0_9 : Hid (Below W0.heap.size W0 W9) := Lib.hid (HB0_8.out.trans ((hb : Below W8.heap.size W8 W9).mono HB0_8.out.size))
    have HB1_9 : Hid (Below W1.heap.size W1 W9) := Lib.hid (HB1_8.out.trans ((hb : Below W8.heap.size W8 W9).mono HB1_8.out.size))
    have HB2_9 : Hid (Below W2.heap.size W2 W9) := Lib.hid (HB2_8.out.trans ((hb : Below W8.heap.size W8 W9).mono HB2_8.out.size))
    have HB3_9 : Hid (Below W3.heap.size W3 W9) := Lib.hid (HB3_8.out.trans ((hb : Below W8.heap.size W8 W9).mono HB3_8.out.size))
    have HB4_9 : Hid (Below W4.heap.size W4 W9) := Lib.hid (HB4_8.out.trans ((hb : Below W8.heap.size W8 W9).mono HB4_8.out.size))
    have HB5_9 : Hid (Below W5.heap.size W5 W9) := Lib.hid (HB5_8.out.trans ((hb : Below W8.heap.size W8 W9).mono HB5_8.out.size))
    have HB6_9 : Hid (Below W6.heap.size W6 W9) := Lib.hid (HB6_8.out.trans ((hb : Below W8.heap.size W8 W9).mono HB6_8.out.size))
    have HB7_9 : Hid (Below W7.heap.size W7 W9) := Lib.hid (HB7_8.out.trans ((hb : Below W8.heap.size W8 W9).mono HB7_8.out.size))
    have HB8_9 : Hid (Below W8.heap.size W8 W9) := Lib.hid (hb)
    clear hb
    refine hK.out _ _ HB6_9.out (fun _ => ?_)
    clear hK K
    go_simp
    refine wpAnyH_ready (rs := [8]) (by kernel_rfl) (by simp) ?_
    refine AllReadyH.cons rfl (fun K hK => ?_) AllReadyH.nil
    go_simp
    go_wp2_with (refine Calls.mono (rofNote_any zN tN oN qN pN _) ?_; rintro e10 W10 ⟨rfl, hb⟩)
    have HB0_10 : Hid (Below W0.heap.size W0 W10) := Lib.hid (HB0_9.out.trans ((hb : Below W9.heap.size W9 W10).mono HB0_9.out.size))
    have HB1_10 : Hid (Below W1.heap.size W1 W10) := Lib.hid (HB1_9.out.trans ((hb : Below W9.heap.size W9 W10).mono HB1_9.out.size))
    have HB2_10 : Hid (Below W2.heap.size W2 W10) := Lib.hid (HB2_9.out.trans ((hb : Below W9.heap.size W9 W10).mono HB2_9.out.size))
    have HB3_10 : Hid (Below W3.heap.size W3 W10) := Lib.hid (HB3_9.out.trans ((hb : Below W9.heap.size W9 W10).mono HB3_9.out.size))
    have HB4_10 : Hid (Below W4.heap.size W4 W10) := Lib.hid (HB4_9.out.trans ((hb : Below W9.heap.size W9 W10).mono HB4_9.out.size))
    have HB5_10 : Hid (Below W5.heap.size W5 W10) := Lib.hid (HB5_9.out.trans ((hb : Below W9.heap.size W9 W10).mono HB5_9.out.size))
    have HB6_10 : Hid (Below W6.heap.size W6 W10) := Lib.hid (HB6_9.out.trans ((hb : Below W9.heap.size W9 W10).mono HB6_9.out.size))
    have HB7_10 : Hid (Below W7.heap.size W7 W10) := Lib.hid (HB7_9.out.trans ((hb : Below W9.heap.size W9 W10).mono HB7_9.out.size))
    have HB8_10 : Hid (Below W8.heap.size W8 W10) := Lib.hid (HB8_9.out.trans ((hb : Below W9.heap.size W9 W10).mono HB8_9.out.size))
    have HB9_10 : Hid (Below W9.heap.size W9 W10) := Lib.hid (hb)
    clear hb
    refine hK.out _ _ HB6_10.out (fun _ => ?_)
    clear hK K
    go_simp
    refine wpAnyH_take (i := 9) (v := .bool false) rfl (by kernel_rfl) (by kernel_rfl) (by kernel_rfl) (fun _ _ _ h => h) (Or.inl ⟨by kernel_rfl, ?h9⟩) HB6_10.out ?_
    case h9 => (intro W9 hW9; go_simp)
    go_simp
    refine wpAnyH_take (i := 10) (v := .bool false) rfl (by kernel_rfl) (by kernel_rfl) (by kernel_rfl) (fun _ _ _ h => h) (Or.inl ⟨by kernel_rfl, ?h10⟩) HB6_10.out ?_
    case h10 => (intro W9 hW9; go_simp)
    go_simp
    refine wpAnyH_done (by kernel_rfl) ?_ _
    go_wp2_with fail
    go_meet
    exact ⟨rfl, HB6_10.out⟩
  case rest =>
    obtain ⟨rfl, hgc⟩ := hcut
    obtain ⟨W7, hWc⟩ : ∃ W, W = wc := ⟨_, rfl⟩
    rw [← hWc] at hgc ⊢
    have HB0_7 : Hid (Below W0.heap.size W0 W7) := Lib.hid (HB0_6.out.trans ((hgc : Below W6.heap.size W6 W7).mono HB0_6.out.size))
    have HB1_7 : Hid (Below W1.heap.size W1 W7) := Lib.hid (HB1_6.out.trans ((hgc : Below W6.heap.size W6 W7).mono HB1_6.out.size))
    have HB2_7 : Hid (Below W2.heap.size W2 W7) := Lib.hid (HB2_6.out.trans ((hgc : Below W6.heap.size W6 W7).mono HB2_6.out.size))
    have HB3_7 : Hid (Below W3.heap.size W3 W7) := Lib.hid (HB3_6.out.trans ((hgc : Below W6.heap.size W6 W7).mono HB3_6.out.size))
    have HB4_7 : Hid (Below W4.heap.size W4 W7) := Lib.hid (HB4_6.out.trans ((hgc : Below W6.heap.size W6 W7).mono HB4_6.out.size))
    have HB5_7 : Hid (Below W5.heap.size W5 W7) := Lib.hid (HB5_6.out.trans ((hgc : Below W6.heap.size W6 W7).mono HB5_6.out.size))
    have HB6_7 : Hid (Below W6.heap.size W6 W7) := Lib.hid (hgc)
    clear hgc hWc wc
    go_upto_if 51 with fail
    go_cut [12] (fun s wx => s = .bool false ∧ Below W7.heap.size W7 wx)
    case first =>
      rcases m with _ | _
      · obtain ⟨rfl, rfl, rfl, rfl, rfl, rfl, rfl, rfl, rfl, rfl, rfl, rfl, rfl, rfl, rfl, rfl, rfl⟩ := HNO.out rfl
        have heq6 : ∀ W, (Op.equalIn 10000 24 (.agg #[.int .i64 0, .int .i64 0, .int .i64 0, .int .i64 0, .int .i64 0, .int .i64 0]) (.agg #[.int .i64 0, .int .i64 0, .int .i64 0, .int .i64 0, .int .i64 0, .int .i64 0])).run Try.prog W = .ok true W := fun W => eq6_of rfl rfl nz_fine nz_fine (decide_eq_true rfl) W
        have heq9 : ∀ W, (Op.equalIn 10000 33 (.agg #[.int .i64 0, .int .i64 0, .int .i64 0, .int .i64 0, .int .i64 0, .int .i64 0, .int .i64 0, .int .i64 0, .int .i64 0]) (.agg #[.int .i64 0, .int .i64 0, .int .i64 0, .int .i64 0, .int .i64 0, .int .i64 0, .int .i64 0, .int .i64 0, .int .i64 0])).run Try.prog W = .ok true W := fun W => frame.eq_of rfl rfl frame.zero_fine frame.zero_fine (decide_eq_true rfl) W
        obtain ⟨u_0, u_1, u_2, u_3, u_4, u_5⟩ := cells6 (HX_x.out W7 HB4_7.out)
        obtain ⟨v_0, v_1, v_2, v_3, v_4, v_5, v_6, v_7, v_8⟩ := cells9 (HX_f.out W7 HB6_7.out)
        go_wp2_with fail
        go_meet
        exact ⟨rfl, Below.refl _ _⟩
      · obtain ⟨hn, rfl, h1, h2, h3, h4, h5, h6, h7, h8, h9, rfl⟩ := HY.out rfl
        subst h1 h2 h3 h4 h5 h6 h7 h8 h9
        have HN := Lib.hid hn
        clear hn
        have HKK : Hid (1 ≤ k0 ∧ k0 ≤ 6) := Lib.hid (right_kind HM.out)
        have HFX : Hid ((⟨f0, f1, f2, f3, f4, f5⟩ : Ns).fine) := Lib.hid (by rw [← HN.out]; exact nums_fine HF1.out)
        have HFF : Hid ((⟨e0, l0, k0, f0, f1, f2, f3, f4, f5⟩ : frame.Fr).fine) := Lib.hid (by obtain ⟨g0, g1, g2, g3, g4, g5⟩ := HFX.out; exact ⟨HK5.out, HK4.out, HF1.out.1, g0, g1, g2, g3, g4, g5⟩)
        have heq6 : ∀ W, (Op.equalIn 10000 24 (.agg #[.int .i64 f0, .int .i64 f1, .int .i64 f2, .int .i64 f3, .int .i64 f4, .int .i64 f5]) (.agg #[.int .i64 f0, .int .i64 f1, .int .i64 f2, .int .i64 f3, .int .i64 f4, .int .i64 f5])).run Try.prog W = .ok true W := fun W => eq6_of rfl rfl HFX.out HFX.out (decide_eq_true rfl) W
        have heq9 : ∀ W, (Op.equalIn 10000 33 (.agg #[.int .i64 e0, .int .i64 l0, .int .i64 k0, .int .i64 f0, .int .i64 f1, .int .i64 f2, .int .i64 f3, .int .i64 f4, .int .i64 f5]) (.agg #[.int .i64 e0, .int .i64 l0, .int .i64 k0, .int .i64 f0, .int .i64 f1, .int .i64 f2, .int .i64 f3, .int .i64 f4, .int .i64 f5])).run Try.prog W = .ok true W := fun W => frame.eq_of rfl rfl HFF.out HFF.out (decide_eq_true rfl) W
        go_upto_region 9 with fail
        refine wp_region_held_drew (S := fun W => Below W7.heap.size W7 W) (by kernel_rfl) (Below.refl _ _).drew (fun _ => ?_)
        obtain ⟨W8, hW8⟩ : ∃ x, x = W7.drew := ⟨_, rfl⟩
        rw [← hW8]
        have HB0_8 : Hid (Below W0.heap.size W0 W8) := Lib.hid (HB0_7.out.trans ((by rw [hW8]; exact (Below.refl _ _).drew : Below W7.heap.size W7 W8).mono HB0_7.out.size))
        have HB1_8 : Hid (Below W1.heap.size W1 W8) := Lib.hid (HB1_7.out.trans ((by rw [hW8]; exact (Below.refl _ _).drew : Below W7.heap.size W7 W8).mono HB1_7.out.size))
        have HB2_8 : Hid (Below W2.heap.size W2 W8) := Lib.hid (HB2_7.out.trans ((by rw [hW8]; exact (Below.refl _ _).drew : Below W7.heap.size W7 W8).mono HB2_7.out.size))
        have HB3_8 : Hid (Below W3.heap.size W3 W8) := Lib.hid (HB3_7.out.trans ((by rw [hW8]; exact (Below.refl _ _).drew : Below W7.heap.size W7 W8).mono HB3_7.out.size))
        have HB4_8 : Hid (Below W4.heap.size W4 W8) := Lib.hid (HB4_7.out.trans ((by rw [hW8]; exact (Below.refl _ _).drew : Below W7.heap.size W7 W8).mono HB4_7.out.size))
        have HB5_8 : Hid (Below W5.heap.size W5 W8) := Lib.hid (HB5_7.out.trans ((by rw [hW8]; exact (Below.refl _ _).drew : Below W7.heap.size W7 W8).mono HB5_7.out.size))
        have HB6_8 : Hid (Below W6.heap.size W6 W8) := Lib.hid (HB6_7.out.trans ((by rw [hW8]; exact (Below.refl _ _).drew : Below W7.heap.size W7 W8).mono HB6_7.out.size))
        have HB7_8 : Hid (Below W7.heap.size W7 W8) := Lib.hid (by rw [hW8]; exact (Below.refl _ _).drew)
        clear hW8
        refine wpAnyH_take (i := 0) (v := .int .i64 0) rfl (by kernel_rfl) (by kernel_rfl) (by kernel_rfl) (fun _ _ _ h => h) (Or.inl ⟨by kernel_rfl, ?h0⟩) HB7_8.out ?_
        case h0 => (intro W9 hW9; go_simp)
        go_simp
        refine wpAnyH_take (i := 1) (v := .bool false) rfl (by kernel_rfl) (by kernel_rfl) (by kernel_rfl) (fun _ _ _ h => h) (Or.inl ⟨by kernel_rfl, ?h1⟩) HB7_8.out ?_
        case h1 => (intro W9 hW9; go_simp)
        go_simp
        refine wpAnyH_take (i := 2) (v := .bool false) rfl (by kernel_rfl) (by kernel_rfl) (by kernel_rfl) (fun _ _ _ h => h) (Or.inl ⟨by kernel_rfl, ?h2⟩) HB7_8.out ?_
        case h2 => (intro W9 hW9; go_simp)
        go_simp
        refine wpAnyH_take (i := 3) (v := .agg #[.int .i64 f0, .int .i64 f1, .int .i64 f2, .int .i64 f3, .int .i64 f4, .int .i64 f5]) rfl (by kernel_rfl) (by kernel_rfl) (by kernel_rfl) (fun _ _ _ h => h) (Or.inl ⟨by kernel_rfl, ?h3⟩) HB7_8.out ?_
        case h3 => (intro W9 hW9; obtain ⟨y0_0, y0_1, y0_2, y0_3, y0_4, y0_5⟩ := cells6 (HX_x.out W9 (HB4_7.out.trans ((show Below W7.heap.size W7 W9 from hW9).mono HB4_7.out.size))); go_simp)
        go_simp
        refine wpAnyH_take (i := 4) (v := .agg #[.int .i64 k0, .int .i64 o, .int .i64 a, .int .i64 y, .int .i64 d, .int .i64 q, .int .i64 p, .int .i64 l, .int .i64 s, .int .i64 n, .bool on, .int .i64 z, .int .i64 t]) rfl (by kernel_rfl) (by kernel_rfl) (by kernel_rfl) (fun _ _ _ h => h) (Or.inl ⟨by kernel_rfl, ?h4⟩) HB7_8.out ?_
        case h4 => (intro W9 hW9; obtain ⟨y0_0, y0_1, y0_2, y0_3, y0_4, y0_5, y0_6, y0_7, y0_8, y0_9, y0_10, y0_11, y0_12⟩ := cells13 (HX0.out W9 (HB0_7.out.trans ((show Below W7.heap.size W7 W9 from hW9).mono HB0_7.out.size))); go_simp)
        go_simp
        refine wpAnyH_ready (rs := [5]) (by kernel_rfl) (by simp) ?_
        refine AllReadyH.cons rfl (fun K hK => ?_) AllReadyH.nil
        go_simp
        go_wp2_with (refine Calls.mono (rpack_is k0 o a y d q p l s n on z t HKK.out HN.out _) ?_; rintro e9 W9 ⟨rfl, hb⟩)
        have HB0_9 : Hid (Below W0.heap.size W0 W9) := Lib.hid (HB0_8.out.trans ((hb : Below W8.heap.size W8 W9).mono HB0_8.out.size))
        have HB1_9 : Hid (Below W1.heap.size W1 W9) := Lib.hid (HB1_8.out.trans ((hb : Below W8.heap.size W8 W9).mono HB1_8.out.size))
        have HB2_9 : Hid (Below W2.heap.size W2 W9) := Lib.hid (HB2_8.out.trans ((hb : Below W8.heap.size W8 W9).mono HB2_8.out.size))
        have HB3_9 : Hid (Below W3.heap.size W3 W9) := Lib.hid (HB3_8.out.trans ((hb : Below W8.heap.size W8 W9).mono HB3_8.out.size))
        have HB4_9 : Hid (Below W4.heap.size W4 W9) := Lib.hid (HB4_8.out.trans ((hb : Below W8.heap.size W8 W9).mono HB4_8.out.size))
        have HB5_9 : Hid (Below W5.heap.size W5 W9) := Lib.hid (HB5_8.out.trans ((hb : Below W8.heap.size W8 W9).mono HB5_8.out.size))
        have HB6_9 : Hid (Below W6.heap.size W6 W9) := Lib.hid (HB6_8.out.trans ((hb : Below W8.heap.size W8 W9).mono HB6_8.out.size))
        have HB7_9 : Hid (Below W7.heap.size W7 W9) := Lib.hid (HB7_8.out.trans ((hb : Below W8.heap.size W8 W9).mono HB7_8.out.size))
        have HB8_9 : Hid (Below W8.heap.size W8 W9) := Lib.hid (hb)
        clear hb
        refine hK.out _ _ HB7_9.out (fun _ => ?_)
        clear hK K
        go_simp
        refine wpAnyH_take (i := 6) (v := .bool false) rfl (by kernel_rfl) (by kernel_rfl) (by kernel_rfl) (fun _ _ _ h => h) (Or.inl ⟨by kernel_rfl, ?h6⟩) HB7_9.out ?_
        case h6 => (intro W9 hW9; go_simp)
        go_simp
        refine wpAnyH_take (i := 7) (v := .bool false) rfl (by kernel_rfl) (by kernel_rfl) (by kernel_rfl) (fun _ _ _ h => h) (Or.inl ⟨by kernel_rfl, ?h7⟩) HB7_9.out ?_
        case h7 => (intro W9 hW9; go_simp)
        go_simp
        refine wpAnyH_take (i := 8) (v := .bool false) rfl (by kernel_rfl) (by kernel_rfl) (by kernel_rfl) (fun _ _ _ h => h) (Or.inl ⟨by kernel_rfl, ?h8⟩) HB7_9.out ?_
        case h8 => (intro W9 hW9; go_simp)
        go_simp
        refine wpAnyH_take (i := 9) (v := .int .i64 0) rfl (by kernel_rfl) (by kernel_rfl) (by kernel_rfl) (fun _ _ _ h => h) (Or.inl ⟨by kernel_rfl, ?h9⟩) HB7_9.out ?_
        case h9 => (intro W9 hW9; go_simp)
        go_simp
        refine wpAnyH_take (i := 10) (v := .bool false) rfl (by kernel_rfl) (by kernel_rfl) (by kernel_rfl) (fun _ _ _ h => h) (Or.inl ⟨by kernel_rfl, ?h10⟩) HB7_9.out ?_
        case h10 => (intro W9 hW9; go_simp)
        go_simp
        refine wpAnyH_take (i := 11) (v := .bool false) rfl (by kernel_rfl) (by kernel_rfl) (by kernel_rfl) (fun _ _ _ h => h) (Or.inl ⟨by kernel_rfl, ?h11⟩) HB7_9.out ?_
        case h11 => (intro W9 hW9; go_simp)
        go_simp
        refine wpAnyH_take (i := 12) (v := .bool false) rfl (by kernel_rfl) (by kernel_rfl) (by kernel_rfl) (fun _ _ _ h => h) (Or.inl ⟨by kernel_rfl, ?h12⟩) HB7_9.out ?_
        case h12 => (intro W9 hW9; go_simp)
        go_simp
        refine wpAnyH_take (i := 13) (v := .agg #[.int .i64 e0, .int .i64 l0, .int .i64 k0, .int .i64 f0, .int .i64 f1, .int .i64 f2, .int .i64 f3, .int .i64 f4, .int .i64 f5]) rfl (by kernel_rfl) (by kernel_rfl) (by kernel_rfl) (fun _ _ _ h => h) (Or.inl ⟨by kernel_rfl, ?h13⟩) HB7_9.out ?_
        case h13 => (intro W9 hW9; obtain ⟨y0_0, y0_1, y0_2, y0_3, y0_4, y0_5, y0_6, y0_7, y0_8⟩ := cells9 (HX_f.out W9 (HB6_7.out.trans ((show Below W7.heap.size W7 W9 from hW9).mono HB6_7.out.size))); go_simp)
        go_simp
        refine wpAnyH_take (i := 14) (v := .int .i64 e0) rfl (by kernel_rfl) (by kernel_rfl) (by kernel_rfl) (fun _ _ _ h => h) (Or.inl ⟨by kernel_rfl, ?h14⟩) HB7_9.out ?_
        case h14 => (intro W9 hW9; go_simp)
        go_simp
        refine wpAnyH_take (i := 15) (v := .int .i64 l0) rfl (by kernel_rfl) (by kernel_rfl) (by kernel_rfl) (fun _ _ _ h => h) (Or.inl ⟨by kernel_rfl, ?h15⟩) HB7_9.out ?_
        case h15 => (intro W9 hW9; go_simp)
        go_simp
        refine wpAnyH_take (i := 16) (v := .pointer (some ⟨w.heap.size, 0, none⟩)) rfl (by kernel_rfl) (by kernel_rfl) (by kernel_rfl) (fun _ _ _ h => h) (Or.inl ⟨by kernel_rfl, ?h16⟩) HB7_9.out ?_
        case h16 => (intro W9 hW9; go_simp)
        go_simp
        refine wpAnyH_take (i := 17) (v := .int .i64 k0) rfl (by kernel_rfl) (by kernel_rfl) (by kernel_rfl) (fun _ _ _ h => h) (Or.inl ⟨by kernel_rfl, ?h17⟩) HB7_9.out ?_
        case h17 => (intro W9 hW9; obtain ⟨y0_0, y0_1, y0_2, y0_3, y0_4, y0_5, y0_6, y0_7, y0_8, y0_9, y0_10, y0_11, y0_12⟩ := cells13 (HX0.out W9 (HB0_7.out.trans ((show Below W7.heap.size W7 W9 from hW9).mono HB0_7.out.size))); go_simp)
        go_simp
        refine wpAnyH_take (i := 18) (v := .agg #[.int .i64 f0, .int .i64 f1, .int .i64 f2, .int .i64 f3, .int .i64 f4, .int .i64 f5]) rfl (by kernel_rfl) (by kernel_rfl) (by kernel_rfl) (fun _ _ _ h => h) (Or.inl ⟨by kernel_rfl, ?h18⟩) HB7_9.out ?_
        case h18 => (intro W9 hW9; obtain ⟨y0_0, y0_1, y0_2, y0_3, y0_4, y0_5⟩ := cells6 (HX_x.out W9 (HB4_7.out.trans ((show Below W7.heap.size W7 W9 from hW9).mono HB4_7.out.size))); go_simp)
        go_simp
        refine wpAnyH_take (i := 19) (v := .agg #[.int .i64 e0, .int .i64 l0, .int .i64 k0, .int .i64 f0, .int .i64 f1, .int .i64 f2, .int .i64 f3, .int .i64 f4, .int .i64 f5]) rfl (by kernel_rfl) (by kernel_rfl) (by kernel_rfl) (fun _ _ _ h => h) (Or.inl ⟨by kernel_rfl, ?h19⟩) HB7_9.out ?_
        case h19 => (intro W9 hW9; go_simp)
        go_simp
        refine wpAnyH_take (i := 20) (v := .bool false) rfl (by kernel_rfl) (by kernel_rfl) (by kernel_rfl) (fun _ _ _ h => h) (Or.inl ⟨by kernel_rfl, ?h20⟩) HB7_9.out ?_
        case h20 => (intro W9 hW9; go_simp)
        go_simp
        refine wpAnyH_take (i := 21) (v := .bool false) rfl (by kernel_rfl) (by kernel_rfl) (by kernel_rfl) (fun _ _ _ h => h) (Or.inl ⟨by kernel_rfl, ?h21⟩) HB7_9.out ?_
        case h21 => (intro W9 hW9; go_simp)
        go_simp
        refine wpAnyH_done (by kernel_rfl) ?_ _
        go_wp2_with fail
        go_meet
        exact ⟨rfl, HB7_9.out⟩
    case rest =>
      obtain ⟨rfl, hgc⟩ := hcut
      obtain ⟨W8, hWc⟩ : ∃ W, W = wc := ⟨_, rfl⟩
      rw [← hWc] at hgc ⊢
      have HB0_8 : Hid (Below W0.heap.size W0 W8) := Lib.hid (HB0_7.out.trans ((hgc : Below W7.heap.size W7 W8).mono HB0_7.out.size))
      have HB1_8 : Hid (Below W1.heap.size W1 W8) := Lib.hid (HB1_7.out.trans ((hgc : Below W7.heap.size W7 W8).mono HB1_7.out.size))
      have HB2_8 : Hid (Below W2.heap.size W2 W8) := Lib.hid (HB2_7.out.trans ((hgc : Below W7.heap.size W7 W8).mono HB2_7.out.size))
      have HB3_8 : Hid (Below W3.heap.size W3 W8) := Lib.hid (HB3_7.out.trans ((hgc : Below W7.heap.size W7 W8).mono HB3_7.out.size))
      have HB4_8 : Hid (Below W4.heap.size W4 W8) := Lib.hid (HB4_7.out.trans ((hgc : Below W7.heap.size W7 W8).mono HB4_7.out.size))
      have HB5_8 : Hid (Below W5.heap.size W5 W8) := Lib.hid (HB5_7.out.trans ((hgc : Below W7.heap.size W7 W8).mono HB5_7.out.size))
      have HB6_8 : Hid (Below W6.heap.size W6 W8) := Lib.hid (HB6_7.out.trans ((hgc : Below W7.heap.size W7 W8).mono HB6_7.out.size))
      have HB7_8 : Hid (Below W7.heap.size W7 W8) := Lib.hid (hgc)
      clear hgc hWc wc
      have heqT : ∀ W, (Op.equalIn 10000 23 (.agg #[.int .i64 kT, .int .i64 oT, .int .i64 aT, .int .i64 yT, .int .i64 dT, .int .i64 qT, .int .i64 pT, .int .i64 lT, .int .i64 sT, .int .i64 nT, .bool onT, .int .i64 zT, .int .i64 tT]) (.agg #[.int .i64 kT, .int .i64 oT, .int .i64 aT, .int .i64 yT, .int .i64 dT, .int .i64 qT, .int .i64 pT, .int .i64 lT, .int .i64 sT, .int .i64 nT, .bool onT, .int .i64 zT, .int .i64 tT])).run Try.prog W = .ok true W := fun W => eq13_of rfl rfl HFT.out HFT.out (decide_eq_true rfl) W
      rcases HE.out with rfl | rfl
      · obtain ⟨q_0, q_1, q_2, q_3, q_4, q_5⟩ := cells6 (HX1.out W8 HB0_8.out)
        go_wp2_with fail
        refine Calls.mono (unp_is a1 b0 b1 b2 b3 b4 b5 HK1.out HF6.out HU.out _) ?_
        rintro e9 W9 ⟨rfl, hb⟩
        have HB0_9 : Hid (Below W0.heap.size W0 W9) := Lib.hid (HB0_8.out.trans ((hb : Below W8.heap.size W8 W9).mono HB0_8.out.size))
        have HB1_9 : Hid (Below W1.heap.size W1 W9) := Lib.hid (HB1_8.out.trans ((hb : Below W8.heap.size W8 W9).mono HB1_8.out.size))
        have HB2_9 : Hid (Below W2.heap.size W2 W9) := Lib.hid (HB2_8.out.trans ((hb : Below W8.heap.size W8 W9).mono HB2_8.out.size))
        have HB3_9 : Hid (Below W3.heap.size W3 W9) := Lib.hid (HB3_8.out.trans ((hb : Below W8.heap.size W8 W9).mono HB3_8.out.size))
        have HB4_9 : Hid (Below W4.heap.size W4 W9) := Lib.hid (HB4_8.out.trans ((hb : Below W8.heap.size W8 W9).mono HB4_8.out.size))
        have HB5_9 : Hid (Below W5.heap.size W5 W9) := Lib.hid (HB5_8.out.trans ((hb : Below W8.heap.size W8 W9).mono HB5_8.out.size))
        have HB6_9 : Hid (Below W6.heap.size W6 W9) := Lib.hid (HB6_8.out.trans ((hb : Below W8.heap.size W8 W9).mono HB6_8.out.size))
        have HB7_9 : Hid (Below W7.heap.size W7 W9) := Lib.hid (HB7_8.out.trans ((hb : Below W8.heap.size W8 W9).mono HB7_8.out.size))
        have HB8_9 : Hid (Below W8.heap.size W8 W9) := Lib.hid (hb)
        clear hb
        clear q_0 q_1 q_2 q_3 q_4 q_5
        obtain ⟨W10, HW10⟩ : ∃ W, Hid ((W9.alloc (.cells #[.int .i64 kT, .int .i64 oT, .int .i64 aT, .int .i64 yT, .int .i64 dT, .int .i64 qT, .int .i64 pT, .int .i64 lT, .int .i64 sT, .int .i64 nT, .bool onT, .int .i64 zT, .int .i64 tT] 23)) = W) := ⟨_, Lib.hid rfl⟩
        have HB0_10 : Hid (Below W0.heap.size W0 W10) := Lib.hid (HB0_9.out.trans ((by rw [← HW10.out]; exact (Below.refl _ _).alloc (Nat.le_refl _) _ : Below W9.heap.size W9 W10).mono HB0_9.out.size))
        have HB1_10 : Hid (Below W1.heap.size W1 W10) := Lib.hid (HB1_9.out.trans ((by rw [← HW10.out]; exact (Below.refl _ _).alloc (Nat.le_refl _) _ : Below W9.heap.size W9 W10).mono HB1_9.out.size))
        have HB2_10 : Hid (Below W2.heap.size W2 W10) := Lib.hid (HB2_9.out.trans ((by rw [← HW10.out]; exact (Below.refl _ _).alloc (Nat.le_refl _) _ : Below W9.heap.size W9 W10).mono HB2_9.out.size))
        have HB3_10 : Hid (Below W3.heap.size W3 W10) := Lib.hid (HB3_9.out.trans ((by rw [← HW10.out]; exact (Below.refl _ _).alloc (Nat.le_refl _) _ : Below W9.heap.size W9 W10).mono HB3_9.out.size))
        have HB4_10 : Hid (Below W4.heap.size W4 W10) := Lib.hid (HB4_9.out.trans ((by rw [← HW10.out]; exact (Below.refl _ _).alloc (Nat.le_refl _) _ : Below W9.heap.size W9 W10).mono HB4_9.out.size))
        have HB5_10 : Hid (Below W5.heap.size W5 W10) := Lib.hid (HB5_9.out.trans ((by rw [← HW10.out]; exact (Below.refl _ _).alloc (Nat.le_refl _) _ : Below W9.heap.size W9 W10).mono HB5_9.out.size))
        have HB6_10 : Hid (Below W6.heap.size W6 W10) := Lib.hid (HB6_9.out.trans ((by rw [← HW10.out]; exact (Below.refl _ _).alloc (Nat.le_refl _) _ : Below W9.heap.size W9 W10).mono HB6_9.out.size))
        have HB7_10 : Hid (Below W7.heap.size W7 W10) := Lib.hid (HB7_9.out.trans ((by rw [← HW10.out]; exact (Below.refl _ _).alloc (Nat.le_refl _) _ : Below W9.heap.size W9 W10).mono HB7_9.out.size))
        have HB8_10 : Hid (Below W8.heap.size W8 W10) := Lib.hid (HB8_9.out.trans ((by rw [← HW10.out]; exact (Below.refl _ _).alloc (Nat.le_refl _) _ : Below W9.heap.size W9 W10).mono HB8_9.out.size))
        have HB9_10 : Hid (Below W9.heap.size W9 W10) := Lib.hid (by rw [← HW10.out]; exact (Below.refl _ _).alloc (Nat.le_refl _) _)
        have HX_s : Hid (∀ W, Below W10.heap.size W10 W → W.heap[W9.heap.size]? = some (.cells #[.int .i64 kT, .int .i64 oT, .int .i64 aT, .int .i64 yT, .int .i64 dT, .int .i64 qT, .int .i64 pT, .int .i64 lT, .int .i64 sT, .int .i64 nT, .bool onT, .int .i64 zT, .int .i64 tT] 23 (0, 0))) := Lib.hid (fun W hb => (hb.block _ (by rw [← HW10.out]; simp)).trans (by rw [← HW10.out]; exact heap_alloc_new _ _))
        obtain ⟨q_0, q_1, q_2, q_3, q_4, q_5⟩ := cells6 (HX1.out W10 HB0_10.out)
        rw [← HW10.out] at q_0 q_1 q_2 q_3 q_4 q_5
        go_wp2_with fail
        refine Calls.mono (runp_is a1 b0 b1 b2 b3 b4 b5 HK1.out HF6.out HU.out _) ?_
        rintro e11 W11 ⟨rfl, hb⟩
        rw [HW10.out] at hb
        have HB0_11 : Hid (Below W0.heap.size W0 W11) := Lib.hid (HB0_10.out.trans ((hb : Below W10.heap.size W10 W11).mono HB0_10.out.size))
        have HB1_11 : Hid (Below W1.heap.size W1 W11) := Lib.hid (HB1_10.out.trans ((hb : Below W10.heap.size W10 W11).mono HB1_10.out.size))
        have HB2_11 : Hid (Below W2.heap.size W2 W11) := Lib.hid (HB2_10.out.trans ((hb : Below W10.heap.size W10 W11).mono HB2_10.out.size))
        have HB3_11 : Hid (Below W3.heap.size W3 W11) := Lib.hid (HB3_10.out.trans ((hb : Below W10.heap.size W10 W11).mono HB3_10.out.size))
        have HB4_11 : Hid (Below W4.heap.size W4 W11) := Lib.hid (HB4_10.out.trans ((hb : Below W10.heap.size W10 W11).mono HB4_10.out.size))
        have HB5_11 : Hid (Below W5.heap.size W5 W11) := Lib.hid (HB5_10.out.trans ((hb : Below W10.heap.size W10 W11).mono HB5_10.out.size))
        have HB6_11 : Hid (Below W6.heap.size W6 W11) := Lib.hid (HB6_10.out.trans ((hb : Below W10.heap.size W10 W11).mono HB6_10.out.size))
        have HB7_11 : Hid (Below W7.heap.size W7 W11) := Lib.hid (HB7_10.out.trans ((hb : Below W10.heap.size W10 W11).mono HB7_10.out.size))
        have HB8_11 : Hid (Below W8.heap.size W8 W11) := Lib.hid (HB8_10.out.trans ((hb : Below W10.heap.size W10 W11).mono HB8_10.out.size))
        have HB9_11 : Hid (Below W9.heap.size W9 W11) := Lib.hid (HB9_10.out.trans ((hb : Below W10.heap.size W10 W11).mono HB9_10.out.size))
        have HB10_11 : Hid (Below W10.heap.size W10 W11) := Lib.hid (hb)
        clear hb
        clear q_0 q_1 q_2 q_3 q_4 q_5
        obtain ⟨W12, HW12⟩ : ∃ W, Hid ((W11.alloc (.cells #[.int .i64 kT, .int .i64 oT, .int .i64 aT, .int .i64 yT, .int .i64 dT, .int .i64 qT, .int .i64 pT, .int .i64 lT, .int .i64 sT, .int .i64 nT, .bool onT, .int .i64 zT, .int .i64 tT] 23)) = W) := ⟨_, Lib.hid rfl⟩
        have HB0_12 : Hid (Below W0.heap.size W0 W12) := Lib.hid (HB0_11.out.trans ((by rw [← HW12.out]; exact (Below.refl _ _).alloc (Nat.le_refl _) _ : Below W11.heap.size W11 W12).mono HB0_11.out.size))
        have HB1_12 : Hid (Below W1.heap.size W1 W12) := Lib.hid (HB1_11.out.trans ((by rw [← HW12.out]; exact (Below.refl _ _).alloc (Nat.le_refl _) _ : Below W11.heap.size W11 W12).mono HB1_11.out.size))
        have HB2_12 : Hid (Below W2.heap.size W2 W12) := Lib.hid (HB2_11.out.trans ((by rw [← HW12.out]; exact (Below.refl _ _).alloc (Nat.le_refl _) _ : Below W11.heap.size W11 W12).mono HB2_11.out.size))
        have HB3_12 : Hid (Below W3.heap.size W3 W12) := Lib.hid (HB3_11.out.trans ((by rw [← HW12.out]; exact (Below.refl _ _).alloc (Nat.le_refl _) _ : Below W11.heap.size W11 W12).mono HB3_11.out.size))
        have HB4_12 : Hid (Below W4.heap.size W4 W12) := Lib.hid (HB4_11.out.trans ((by rw [← HW12.out]; exact (Below.refl _ _).alloc (Nat.le_refl _) _ : Below W11.heap.size W11 W12).mono HB4_11.out.size))
        have HB5_12 : Hid (Below W5.heap.size W5 W12) := Lib.hid (HB5_11.out.trans ((by rw [← HW12.out]; exact (Below.refl _ _).alloc (Nat.le_refl _) _ : Below W11.heap.size W11 W12).mono HB5_11.out.size))
        have HB6_12 : Hid (Below W6.heap.size W6 W12) := Lib.hid (HB6_11.out.trans ((by rw [← HW12.out]; exact (Below.refl _ _).alloc (Nat.le_refl _) _ : Below W11.heap.size W11 W12).mono HB6_11.out.size))
        have HB7_12 : Hid (Below W7.heap.size W7 W12) := Lib.hid (HB7_11.out.trans ((by rw [← HW12.out]; exact (Below.refl _ _).alloc (Nat.le_refl _) _ : Below W11.heap.size W11 W12).mono HB7_11.out.size))
        have HB8_12 : Hid (Below W8.heap.size W8 W12) := Lib.hid (HB8_11.out.trans ((by rw [← HW12.out]; exact (Below.refl _ _).alloc (Nat.le_refl _) _ : Below W11.heap.size W11 W12).mono HB8_11.out.size))
        have HB9_12 : Hid (Below W9.heap.size W9 W12) := Lib.hid (HB9_11.out.trans ((by rw [← HW12.out]; exact (Below.refl _ _).alloc (Nat.le_refl _) _ : Below W11.heap.size W11 W12).mono HB9_11.out.size))
        have HB10_12 : Hid (Below W10.heap.size W10 W12) := Lib.hid (HB10_11.out.trans ((by rw [← HW12.out]; exact (Below.refl _ _).alloc (Nat.le_refl _) _ : Below W11.heap.size W11 W12).mono HB10_11.out.size))
        have HB11_12 : Hid (Below W11.heap.size W11 W12) := Lib.hid (by rw [← HW12.out]; exact (Below.refl _ _).alloc (Nat.le_refl _) _)
        have HX_t : Hid (∀ W, Below W12.heap.size W12 W → W.heap[W11.heap.size]? = some (.cells #[.int .i64 kT, .int .i64 oT, .int .i64 aT, .int .i64 yT, .int .i64 dT, .int .i64 qT, .int .i64 pT, .int .i64 lT, .int .i64 sT, .int .i64 nT, .bool onT, .int .i64 zT, .int .i64 tT] 23 (0, 0))) := Lib.hid (fun W hb => (hb.block _ (by rw [← HW12.out]; simp)).trans (by rw [← HW12.out]; exact heap_alloc_new _ _))
        obtain ⟨q_0, q_1, q_2, q_3, q_4, q_5⟩ := cells6 (HX1.out W12 HB0_12.out)
        rw [← HW12.out] at q_0 q_1 q_2 q_3 q_4 q_5
        go_wp2_with fail
        refine Calls.mono (of_is a5 a4 a1 b0 b1 b2 b3 b4 b5 HK1.out HF6.out HU.out _) ?_
        rintro e13 W13 ⟨rfl, hb⟩
        rw [HW12.out] at hb
        have HB0_13 : Hid (Below W0.heap.size W0 W13) := Lib.hid (HB0_12.out.trans ((hb : Below W12.heap.size W12 W13).mono HB0_12.out.size))
        have HB1_13 : Hid (Below W1.heap.size W1 W13) := Lib.hid (HB1_12.out.trans ((hb : Below W12.heap.size W12 W13).mono HB1_12.out.size))
        have HB2_13 : Hid (Below W2.heap.size W2 W13) := Lib.hid (HB2_12.out.trans ((hb : Below W12.heap.size W12 W13).mono HB2_12.out.size))
        have HB3_13 : Hid (Below W3.heap.size W3 W13) := Lib.hid (HB3_12.out.trans ((hb : Below W12.heap.size W12 W13).mono HB3_12.out.size))
        have HB4_13 : Hid (Below W4.heap.size W4 W13) := Lib.hid (HB4_12.out.trans ((hb : Below W12.heap.size W12 W13).mono HB4_12.out.size))
        have HB5_13 : Hid (Below W5.heap.size W5 W13) := Lib.hid (HB5_12.out.trans ((hb : Below W12.heap.size W12 W13).mono HB5_12.out.size))
        have HB6_13 : Hid (Below W6.heap.size W6 W13) := Lib.hid (HB6_12.out.trans ((hb : Below W12.heap.size W12 W13).mono HB6_12.out.size))
        have HB7_13 : Hid (Below W7.heap.size W7 W13) := Lib.hid (HB7_12.out.trans ((hb : Below W12.heap.size W12 W13).mono HB7_12.out.size))
        have HB8_13 : Hid (Below W8.heap.size W8 W13) := Lib.hid (HB8_12.out.trans ((hb : Below W12.heap.size W12 W13).mono HB8_12.out.size))
        have HB9_13 : Hid (Below W9.heap.size W9 W13) := Lib.hid (HB9_12.out.trans ((hb : Below W12.heap.size W12 W13).mono HB9_12.out.size))
        have HB10_13 : Hid (Below W10.heap.size W10 W13) := Lib.hid (HB10_12.out.trans ((hb : Below W12.heap.size W12 W13).mono HB10_12.out.size))
        have HB11_13 : Hid (Below W11.heap.size W11 W13) := Lib.hid (HB11_12.out.trans ((hb : Below W12.heap.size W12 W13).mono HB11_12.out.size))
        have HB12_13 : Hid (Below W12.heap.size W12 W13) := Lib.hid (hb)
        clear hb
        clear q_0 q_1 q_2 q_3 q_4 q_5
        obtain ⟨W14, HW14⟩ : ∃ W, Hid ((W13.alloc (.cells #[.int .i64 kT, .int .i64 oT, .int .i64 aT, .int .i64 yT, .int .i64 dT, .int .i64 qT, .int .i64 pT, .int .i64 lT, .int .i64 sT, .int .i64 nT, .bool onT, .int .i64 zT, .int .i64 tT] 23)) = W) := ⟨_, Lib.hid rfl⟩
        have HB0_14 : Hid (Below W0.heap.size W0 W14) := Lib.hid (HB0_13.out.trans ((by rw [← HW14.out]; exact (Below.refl _ _).alloc (Nat.le_refl _) _ : Below W13.heap.size W13 W14).mono HB0_13.out.size))
        have HB1_14 : Hid (Below W1.heap.size W1 W14) := Lib.hid (HB1_13.out.trans ((by rw [← HW14.out]; exact (Below.refl _ _).alloc (Nat.le_refl _) _ : Below W13.heap.size W13 W14).mono HB1_13.out.size))
        have HB2_14 : Hid (Below W2.heap.size W2 W14) := Lib.hid (HB2_13.out.trans ((by rw [← HW14.out]; exact (Below.refl _ _).alloc (Nat.le_refl _) _ : Below W13.heap.size W13 W14).mono HB2_13.out.size))
        have HB3_14 : Hid (Below W3.heap.size W3 W14) := Lib.hid (HB3_13.out.trans ((by rw [← HW14.out]; exact (Below.refl _ _).alloc (Nat.le_refl _) _ : Below W13.heap.size W13 W14).mono HB3_13.out.size))
        have HB4_14 : Hid (Below W4.heap.size W4 W14) := Lib.hid (HB4_13.out.trans ((by rw [← HW14.out]; exact (Below.refl _ _).alloc (Nat.le_refl _) _ : Below W13.heap.size W13 W14).mono HB4_13.out.size))
        have HB5_14 : Hid (Below W5.heap.size W5 W14) := Lib.hid (HB5_13.out.trans ((by rw [← HW14.out]; exact (Below.refl _ _).alloc (Nat.le_refl _) _ : Below W13.heap.size W13 W14).mono HB5_13.out.size))
        have HB6_14 : Hid (Below W6.heap.size W6 W14) := Lib.hid (HB6_13.out.trans ((by rw [← HW14.out]; exact (Below.refl _ _).alloc (Nat.le_refl _) _ : Below W13.heap.size W13 W14).mono HB6_13.out.size))
        have HB7_14 : Hid (Below W7.heap.size W7 W14) := Lib.hid (HB7_13.out.trans ((by rw [← HW14.out]; exact (Below.refl _ _).alloc (Nat.le_refl _) _ : Below W13.heap.size W13 W14).mono HB7_13.out.size))
        have HB8_14 : Hid (Below W8.heap.size W8 W14) := Lib.hid (HB8_13.out.trans ((by rw [← HW14.out]; exact (Below.refl _ _).alloc (Nat.le_refl _) _ : Below W13.heap.size W13 W14).mono HB8_13.out.size))
        have HB9_14 : Hid (Below W9.heap.size W9 W14) := Lib.hid (HB9_13.out.trans ((by rw [← HW14.out]; exact (Below.refl _ _).alloc (Nat.le_refl _) _ : Below W13.heap.size W13 W14).mono HB9_13.out.size))
        have HB10_14 : Hid (Below W10.heap.size W10 W14) := Lib.hid (HB10_13.out.trans ((by rw [← HW14.out]; exact (Below.refl _ _).alloc (Nat.le_refl _) _ : Below W13.heap.size W13 W14).mono HB10_13.out.size))
        have HB11_14 : Hid (Below W11.heap.size W11 W14) := Lib.hid (HB11_13.out.trans ((by rw [← HW14.out]; exact (Below.refl _ _).alloc (Nat.le_refl _) _ : Below W13.heap.size W13 W14).mono HB11_13.out.size))
        have HB12_14 : Hid (Below W12.heap.size W12 W14) := Lib.hid (HB12_13.out.trans ((by rw [← HW14.out]; exact (Below.refl _ _).alloc (Nat.le_refl _) _ : Below W13.heap.size W13 W14).mono HB12_13.out.size))
        have HB13_14 : Hid (Below W13.heap.size W13 W14) := Lib.hid (by rw [← HW14.out]; exact (Below.refl _ _).alloc (Nat.le_refl _) _)
        have HX_u : Hid (∀ W, Below W14.heap.size W14 W → W.heap[W13.heap.size]? = some (.cells #[.int .i64 kT, .int .i64 oT, .int .i64 aT, .int .i64 yT, .int .i64 dT, .int .i64 qT, .int .i64 pT, .int .i64 lT, .int .i64 sT, .int .i64 nT, .bool onT, .int .i64 zT, .int .i64 tT] 23 (0, 0))) := Lib.hid (fun W hb => (hb.block _ (by rw [← HW14.out]; simp)).trans (by rw [← HW14.out]; exact heap_alloc_new _ _))
        obtain ⟨s_0, s_1, s_2, s_3, s_4, s_5, s_6, s_7, s_8, s_9, s_10, s_11, s_12⟩ := cells13 (HX_s.out W14 HB10_14.out)
        rw [← HW14.out] at s_0 s_1 s_2 s_3 s_4 s_5 s_6 s_7 s_8 s_9 s_10 s_11 s_12
        obtain ⟨t_0, t_1, t_2, t_3, t_4, t_5, t_6, t_7, t_8, t_9, t_10, t_11, t_12⟩ := cells13 (HX_t.out W14 HB12_14.out)
        rw [← HW14.out] at t_0 t_1 t_2 t_3 t_4 t_5 t_6 t_7 t_8 t_9 t_10 t_11 t_12
        go_wp2_with fail
        go_ret
        exact ⟨rfl, by rw [HW14.out]; exact HBW.out.trans (HB0_14.out.mono HBW.out.size)⟩
      · obtain ⟨q_0, q_1, q_2, q_3, q_4, q_5⟩ := cells6 (HX1.out W8 HB0_8.out)
        go_wp2_with fail
        refine Calls.mono (unp_is a1 b0 b1 b2 b3 b4 b5 HK1.out HF6.out HU.out _) ?_
        rintro e9 W9 ⟨rfl, hb⟩
        have HB0_9 : Hid (Below W0.heap.size W0 W9) := Lib.hid (HB0_8.out.trans ((hb : Below W8.heap.size W8 W9).mono HB0_8.out.size))
        have HB1_9 : Hid (Below W1.heap.size W1 W9) := Lib.hid (HB1_8.out.trans ((hb : Below W8.heap.size W8 W9).mono HB1_8.out.size))
        have HB2_9 : Hid (Below W2.heap.size W2 W9) := Lib.hid (HB2_8.out.trans ((hb : Below W8.heap.size W8 W9).mono HB2_8.out.size))
        have HB3_9 : Hid (Below W3.heap.size W3 W9) := Lib.hid (HB3_8.out.trans ((hb : Below W8.heap.size W8 W9).mono HB3_8.out.size))
        have HB4_9 : Hid (Below W4.heap.size W4 W9) := Lib.hid (HB4_8.out.trans ((hb : Below W8.heap.size W8 W9).mono HB4_8.out.size))
        have HB5_9 : Hid (Below W5.heap.size W5 W9) := Lib.hid (HB5_8.out.trans ((hb : Below W8.heap.size W8 W9).mono HB5_8.out.size))
        have HB6_9 : Hid (Below W6.heap.size W6 W9) := Lib.hid (HB6_8.out.trans ((hb : Below W8.heap.size W8 W9).mono HB6_8.out.size))
        have HB7_9 : Hid (Below W7.heap.size W7 W9) := Lib.hid (HB7_8.out.trans ((hb : Below W8.heap.size W8 W9).mono HB7_8.out.size))
        have HB8_9 : Hid (Below W8.heap.size W8 W9) := Lib.hid (hb)
        clear hb
        clear q_0 q_1 q_2 q_3 q_4 q_5
        obtain ⟨W10, HW10⟩ : ∃ W, Hid ((W9.alloc (.cells #[.int .i64 kT, .int .i64 oT, .int .i64 aT, .int .i64 yT, .int .i64 dT, .int .i64 qT, .int .i64 pT, .int .i64 lT, .int .i64 sT, .int .i64 nT, .bool onT, .int .i64 zT, .int .i64 tT] 23)) = W) := ⟨_, Lib.hid rfl⟩
        have HB0_10 : Hid (Below W0.heap.size W0 W10) := Lib.hid (HB0_9.out.trans ((by rw [← HW10.out]; exact (Below.refl _ _).alloc (Nat.le_refl _) _ : Below W9.heap.size W9 W10).mono HB0_9.out.size))
        have HB1_10 : Hid (Below W1.heap.size W1 W10) := Lib.hid (HB1_9.out.trans ((by rw [← HW10.out]; exact (Below.refl _ _).alloc (Nat.le_refl _) _ : Below W9.heap.size W9 W10).mono HB1_9.out.size))
        have HB2_10 : Hid (Below W2.heap.size W2 W10) := Lib.hid (HB2_9.out.trans ((by rw [← HW10.out]; exact (Below.refl _ _).alloc (Nat.le_refl _) _ : Below W9.heap.size W9 W10).mono HB2_9.out.size))
        have HB3_10 : Hid (Below W3.heap.size W3 W10) := Lib.hid (HB3_9.out.trans ((by rw [← HW10.out]; exact (Below.refl _ _).alloc (Nat.le_refl _) _ : Below W9.heap.size W9 W10).mono HB3_9.out.size))
        have HB4_10 : Hid (Below W4.heap.size W4 W10) := Lib.hid (HB4_9.out.trans ((by rw [← HW10.out]; exact (Below.refl _ _).alloc (Nat.le_refl _) _ : Below W9.heap.size W9 W10).mono HB4_9.out.size))
        have HB5_10 : Hid (Below W5.heap.size W5 W10) := Lib.hid (HB5_9.out.trans ((by rw [← HW10.out]; exact (Below.refl _ _).alloc (Nat.le_refl _) _ : Below W9.heap.size W9 W10).mono HB5_9.out.size))
        have HB6_10 : Hid (Below W6.heap.size W6 W10) := Lib.hid (HB6_9.out.trans ((by rw [← HW10.out]; exact (Below.refl _ _).alloc (Nat.le_refl _) _ : Below W9.heap.size W9 W10).mono HB6_9.out.size))
        have HB7_10 : Hid (Below W7.heap.size W7 W10) := Lib.hid (HB7_9.out.trans ((by rw [← HW10.out]; exact (Below.refl _ _).alloc (Nat.le_refl _) _ : Below W9.heap.size W9 W10).mono HB7_9.out.size))
        have HB8_10 : Hid (Below W8.heap.size W8 W10) := Lib.hid (HB8_9.out.trans ((by rw [← HW10.out]; exact (Below.refl _ _).alloc (Nat.le_refl _) _ : Below W9.heap.size W9 W10).mono HB8_9.out.size))
        have HB9_10 : Hid (Below W9.heap.size W9 W10) := Lib.hid (by rw [← HW10.out]; exact (Below.refl _ _).alloc (Nat.le_refl _) _)
        have HX_s : Hid (∀ W, Below W10.heap.size W10 W → W.heap[W9.heap.size]? = some (.cells #[.int .i64 kT, .int .i64 oT, .int .i64 aT, .int .i64 yT, .int .i64 dT, .int .i64 qT, .int .i64 pT, .int .i64 lT, .int .i64 sT, .int .i64 nT, .bool onT, .int .i64 zT, .int .i64 tT] 23 (0, 0))) := Lib.hid (fun W hb => (hb.block _ (by rw [← HW10.out]; simp)).trans (by rw [← HW10.out]; exact heap_alloc_new _ _))
        obtain ⟨q_0, q_1, q_2, q_3, q_4, q_5⟩ := cells6 (HX1.out W10 HB0_10.out)
        rw [← HW10.out] at q_0 q_1 q_2 q_3 q_4 q_5
        go_wp2_with fail
        refine Calls.mono (runp_is a1 b0 b1 b2 b3 b4 b5 HK1.out HF6.out HU.out _) ?_
        rintro e11 W11 ⟨rfl, hb⟩
        rw [HW10.out] at hb
        have HB0_11 : Hid (Below W0.heap.size W0 W11) := Lib.hid (HB0_10.out.trans ((hb : Below W10.heap.size W10 W11).mono HB0_10.out.size))
        have HB1_11 : Hid (Below W1.heap.size W1 W11) := Lib.hid (HB1_10.out.trans ((hb : Below W10.heap.size W10 W11).mono HB1_10.out.size))
        have HB2_11 : Hid (Below W2.heap.size W2 W11) := Lib.hid (HB2_10.out.trans ((hb : Below W10.heap.size W10 W11).mono HB2_10.out.size))
        have HB3_11 : Hid (Below W3.heap.size W3 W11) := Lib.hid (HB3_10.out.trans ((hb : Below W10.heap.size W10 W11).mono HB3_10.out.size))
        have HB4_11 : Hid (Below W4.heap.size W4 W11) := Lib.hid (HB4_10.out.trans ((hb : Below W10.heap.size W10 W11).mono HB4_10.out.size))
        have HB5_11 : Hid (Below W5.heap.size W5 W11) := Lib.hid (HB5_10.out.trans ((hb : Below W10.heap.size W10 W11).mono HB5_10.out.size))
        have HB6_11 : Hid (Below W6.heap.size W6 W11) := Lib.hid (HB6_10.out.trans ((hb : Below W10.heap.size W10 W11).mono HB6_10.out.size))
        have HB7_11 : Hid (Below W7.heap.size W7 W11) := Lib.hid (HB7_10.out.trans ((hb : Below W10.heap.size W10 W11).mono HB7_10.out.size))
        have HB8_11 : Hid (Below W8.heap.size W8 W11) := Lib.hid (HB8_10.out.trans ((hb : Below W10.heap.size W10 W11).mono HB8_10.out.size))
        have HB9_11 : Hid (Below W9.heap.size W9 W11) := Lib.hid (HB9_10.out.trans ((hb : Below W10.heap.size W10 W11).mono HB9_10.out.size))
        have HB10_11 : Hid (Below W10.heap.size W10 W11) := Lib.hid (hb)
        clear hb
        clear q_0 q_1 q_2 q_3 q_4 q_5
        obtain ⟨W12, HW12⟩ : ∃ W, Hid ((W11.alloc (.cells #[.int .i64 kT, .int .i64 oT, .int .i64 aT, .int .i64 yT, .int .i64 dT, .int .i64 qT, .int .i64 pT, .int .i64 lT, .int .i64 sT, .int .i64 nT, .bool onT, .int .i64 zT, .int .i64 tT] 23)) = W) := ⟨_, Lib.hid rfl⟩
        have HB0_12 : Hid (Below W0.heap.size W0 W12) := Lib.hid (HB0_11.out.trans ((by rw [← HW12.out]; exact (Below.refl _ _).alloc (Nat.le_refl _) _ : Below W11.heap.size W11 W12).mono HB0_11.out.size))
        have HB1_12 : Hid (Below W1.heap.size W1 W12) := Lib.hid (HB1_11.out.trans ((by rw [← HW12.out]; exact (Below.refl _ _).alloc (Nat.le_refl _) _ : Below W11.heap.size W11 W12).mono HB1_11.out.size))
        have HB2_12 : Hid (Below W2.heap.size W2 W12) := Lib.hid (HB2_11.out.trans ((by rw [← HW12.out]; exact (Below.refl _ _).alloc (Nat.le_refl _) _ : Below W11.heap.size W11 W12).mono HB2_11.out.size))
        have HB3_12 : Hid (Below W3.heap.size W3 W12) := Lib.hid (HB3_11.out.trans ((by rw [← HW12.out]; exact (Below.refl _ _).alloc (Nat.le_refl _) _ : Below W11.heap.size W11 W12).mono HB3_11.out.size))
        have HB4_12 : Hid (Below W4.heap.size W4 W12) := Lib.hid (HB4_11.out.trans ((by rw [← HW12.out]; exact (Below.refl _ _).alloc (Nat.le_refl _) _ : Below W11.heap.size W11 W12).mono HB4_11.out.size))
        have HB5_12 : Hid (Below W5.heap.size W5 W12) := Lib.hid (HB5_11.out.trans ((by rw [← HW12.out]; exact (Below.refl _ _).alloc (Nat.le_refl _) _ : Below W11.heap.size W11 W12).mono HB5_11.out.size))
        have HB6_12 : Hid (Below W6.heap.size W6 W12) := Lib.hid (HB6_11.out.trans ((by rw [← HW12.out]; exact (Below.refl _ _).alloc (Nat.le_refl _) _ : Below W11.heap.size W11 W12).mono HB6_11.out.size))
        have HB7_12 : Hid (Below W7.heap.size W7 W12) := Lib.hid (HB7_11.out.trans ((by rw [← HW12.out]; exact (Below.refl _ _).alloc (Nat.le_refl _) _ : Below W11.heap.size W11 W12).mono HB7_11.out.size))
        have HB8_12 : Hid (Below W8.heap.size W8 W12) := Lib.hid (HB8_11.out.trans ((by rw [← HW12.out]; exact (Below.refl _ _).alloc (Nat.le_refl _) _ : Below W11.heap.size W11 W12).mono HB8_11.out.size))
        have HB9_12 : Hid (Below W9.heap.size W9 W12) := Lib.hid (HB9_11.out.trans ((by rw [← HW12.out]; exact (Below.refl _ _).alloc (Nat.le_refl _) _ : Below W11.heap.size W11 W12).mono HB9_11.out.size))
        have HB10_12 : Hid (Below W10.heap.size W10 W12) := Lib.hid (HB10_11.out.trans ((by rw [← HW12.out]; exact (Below.refl _ _).alloc (Nat.le_refl _) _ : Below W11.heap.size W11 W12).mono HB10_11.out.size))
        have HB11_12 : Hid (Below W11.heap.size W11 W12) := Lib.hid (by rw [← HW12.out]; exact (Below.refl _ _).alloc (Nat.le_refl _) _)
        have HX_t : Hid (∀ W, Below W12.heap.size W12 W → W.heap[W11.heap.size]? = some (.cells #[.int .i64 kT, .int .i64 oT, .int .i64 aT, .int .i64 yT, .int .i64 dT, .int .i64 qT, .int .i64 pT, .int .i64 lT, .int .i64 sT, .int .i64 nT, .bool onT, .int .i64 zT, .int .i64 tT] 23 (0, 0))) := Lib.hid (fun W hb => (hb.block _ (by rw [← HW12.out]; simp)).trans (by rw [← HW12.out]; exact heap_alloc_new _ _))
        obtain ⟨q_0, q_1, q_2, q_3, q_4, q_5⟩ := cells6 (HX1.out W12 HB0_12.out)
        rw [← HW12.out] at q_0 q_1 q_2 q_3 q_4 q_5
        go_wp2_with fail
        refine Calls.mono (of_is a5 a4 a1 b0 b1 b2 b3 b4 b5 HK1.out HF6.out HU.out _) ?_
        rintro e13 W13 ⟨rfl, hb⟩
        rw [HW12.out] at hb
        have HB0_13 : Hid (Below W0.heap.size W0 W13) := Lib.hid (HB0_12.out.trans ((hb : Below W12.heap.size W12 W13).mono HB0_12.out.size))
        have HB1_13 : Hid (Below W1.heap.size W1 W13) := Lib.hid (HB1_12.out.trans ((hb : Below W12.heap.size W12 W13).mono HB1_12.out.size))
        have HB2_13 : Hid (Below W2.heap.size W2 W13) := Lib.hid (HB2_12.out.trans ((hb : Below W12.heap.size W12 W13).mono HB2_12.out.size))
        have HB3_13 : Hid (Below W3.heap.size W3 W13) := Lib.hid (HB3_12.out.trans ((hb : Below W12.heap.size W12 W13).mono HB3_12.out.size))
        have HB4_13 : Hid (Below W4.heap.size W4 W13) := Lib.hid (HB4_12.out.trans ((hb : Below W12.heap.size W12 W13).mono HB4_12.out.size))
        have HB5_13 : Hid (Below W5.heap.size W5 W13) := Lib.hid (HB5_12.out.trans ((hb : Below W12.heap.size W12 W13).mono HB5_12.out.size))
        have HB6_13 : Hid (Below W6.heap.size W6 W13) := Lib.hid (HB6_12.out.trans ((hb : Below W12.heap.size W12 W13).mono HB6_12.out.size))
        have HB7_13 : Hid (Below W7.heap.size W7 W13) := Lib.hid (HB7_12.out.trans ((hb : Below W12.heap.size W12 W13).mono HB7_12.out.size))
        have HB8_13 : Hid (Below W8.heap.size W8 W13) := Lib.hid (HB8_12.out.trans ((hb : Below W12.heap.size W12 W13).mono HB8_12.out.size))
        have HB9_13 : Hid (Below W9.heap.size W9 W13) := Lib.hid (HB9_12.out.trans ((hb : Below W12.heap.size W12 W13).mono HB9_12.out.size))
        have HB10_13 : Hid (Below W10.heap.size W10 W13) := Lib.hid (HB10_12.out.trans ((hb : Below W12.heap.size W12 W13).mono HB10_12.out.size))
        have HB11_13 : Hid (Below W11.heap.size W11 W13) := Lib.hid (HB11_12.out.trans ((hb : Below W12.heap.size W12 W13).mono HB11_12.out.size))
        have HB12_13 : Hid (Below W12.heap.size W12 W13) := Lib.hid (hb)
        clear hb
        clear q_0 q_1 q_2 q_3 q_4 q_5
        obtain ⟨W14, HW14⟩ : ∃ W, Hid ((W13.alloc (.cells #[.int .i64 kT, .int .i64 oT, .int .i64 aT, .int .i64 yT, .int .i64 dT, .int .i64 qT, .int .i64 pT, .int .i64 lT, .int .i64 sT, .int .i64 nT, .bool onT, .int .i64 zT, .int .i64 tT] 23)) = W) := ⟨_, Lib.hid rfl⟩
        have HB0_14 : Hid (Below W0.heap.size W0 W14) := Lib.hid (HB0_13.out.trans ((by rw [← HW14.out]; exact (Below.refl _ _).alloc (Nat.le_refl _) _ : Below W13.heap.size W13 W14).mono HB0_13.out.size))
        have HB1_14 : Hid (Below W1.heap.size W1 W14) := Lib.hid (HB1_13.out.trans ((by rw [← HW14.out]; exact (Below.refl _ _).alloc (Nat.le_refl _) _ : Below W13.heap.size W13 W14).mono HB1_13.out.size))
        have HB2_14 : Hid (Below W2.heap.size W2 W14) := Lib.hid (HB2_13.out.trans ((by rw [← HW14.out]; exact (Below.refl _ _).alloc (Nat.le_refl _) _ : Below W13.heap.size W13 W14).mono HB2_13.out.size))
        have HB3_14 : Hid (Below W3.heap.size W3 W14) := Lib.hid (HB3_13.out.trans ((by rw [← HW14.out]; exact (Below.refl _ _).alloc (Nat.le_refl _) _ : Below W13.heap.size W13 W14).mono HB3_13.out.size))
        have HB4_14 : Hid (Below W4.heap.size W4 W14) := Lib.hid (HB4_13.out.trans ((by rw [← HW14.out]; exact (Below.refl _ _).alloc (Nat.le_refl _) _ : Below W13.heap.size W13 W14).mono HB4_13.out.size))
        have HB5_14 : Hid (Below W5.heap.size W5 W14) := Lib.hid (HB5_13.out.trans ((by rw [← HW14.out]; exact (Below.refl _ _).alloc (Nat.le_refl _) _ : Below W13.heap.size W13 W14).mono HB5_13.out.size))
        have HB6_14 : Hid (Below W6.heap.size W6 W14) := Lib.hid (HB6_13.out.trans ((by rw [← HW14.out]; exact (Below.refl _ _).alloc (Nat.le_refl _) _ : Below W13.heap.size W13 W14).mono HB6_13.out.size))
        have HB7_14 : Hid (Below W7.heap.size W7 W14) := Lib.hid (HB7_13.out.trans ((by rw [← HW14.out]; exact (Below.refl _ _).alloc (Nat.le_refl _) _ : Below W13.heap.size W13 W14).mono HB7_13.out.size))
        have HB8_14 : Hid (Below W8.heap.size W8 W14) := Lib.hid (HB8_13.out.trans ((by rw [← HW14.out]; exact (Below.refl _ _).alloc (Nat.le_refl _) _ : Below W13.heap.size W13 W14).mono HB8_13.out.size))
        have HB9_14 : Hid (Below W9.heap.size W9 W14) := Lib.hid (HB9_13.out.trans ((by rw [← HW14.out]; exact (Below.refl _ _).alloc (Nat.le_refl _) _ : Below W13.heap.size W13 W14).mono HB9_13.out.size))
        have HB10_14 : Hid (Below W10.heap.size W10 W14) := Lib.hid (HB10_13.out.trans ((by rw [← HW14.out]; exact (Below.refl _ _).alloc (Nat.le_refl _) _ : Below W13.heap.size W13 W14).mono HB10_13.out.size))
        have HB11_14 : Hid (Below W11.heap.size W11 W14) := Lib.hid (HB11_13.out.trans ((by rw [← HW14.out]; exact (Below.refl _ _).alloc (Nat.le_refl _) _ : Below W13.heap.size W13 W14).mono HB11_13.out.size))
        have HB12_14 : Hid (Below W12.heap.size W12 W14) := Lib.hid (HB12_13.out.trans ((by rw [← HW14.out]; exact (Below.refl _ _).alloc (Nat.le_refl _) _ : Below W13.heap.size W13 W14).mono HB12_13.out.size))
        have HB13_14 : Hid (Below W13.heap.size W13 W14) := Lib.hid (by rw [← HW14.out]; exact (Below.refl _ _).alloc (Nat.le_refl _) _)
        have HX_u : Hid (∀ W, Below W14.heap.size W14 W → W.heap[W13.heap.size]? = some (.cells #[.int .i64 kT, .int .i64 oT, .int .i64 aT, .int .i64 yT, .int .i64 dT, .int .i64 qT, .int .i64 pT, .int .i64 lT, .int .i64 sT, .int .i64 nT, .bool onT, .int .i64 zT, .int .i64 tT] 23 (0, 0))) := Lib.hid (fun W hb => (hb.block _ (by rw [← HW14.out]; simp)).trans (by rw [← HW14.out]; exact heap_alloc_new _ _))
        obtain ⟨s_0, s_1, s_2, s_3, s_4, s_5, s_6, s_7, s_8, s_9, s_10, s_11, s_12⟩ := cells13 (HX_s.out W14 HB10_14.out)
        rw [← HW14.out] at s_0 s_1 s_2 s_3 s_4 s_5 s_6 s_7 s_8 s_9 s_10 s_11 s_12
        obtain ⟨t_0, t_1, t_2, t_3, t_4, t_5, t_6, t_7, t_8, t_9, t_10, t_11, t_12⟩ := cells13 (HX_t.out W14 HB12_14.out)
        rw [← HW14.out] at t_0 t_1 t_2 t_3 t_4 t_5 t_6 t_7 t_8 t_9 t_10 t_11 t_12
        go_wp2_with fail
        go_ret
        exact ⟨rfl, by rw [HW14.out]; exact HBW.out.trans (HB0_14.out.mono HBW.out.size)⟩
  -- WALK ENDS

set_option maxRecDepth 100000 in
theorem lifted (os : Os) (started : os.Started) (H : Type) (enc : TypeId × Value → H) :
    ReturnsInHanded {} Try.checked os 3 .any (Rows.recRightSpec.pre6 enc Try.prog Try.f3 Rows.recRightRow.domain false) (Rows.recRightSpec.post enc Try.prog Try.f3 false true false false) := by
  refine returnsInHanded_of_change (C := Try.checked) own started (by kernel_rfl) Try.func3
    (ChangeSpec.witness6 (enc := enc) (C := Try.checked) false ⟨#[], #[.agg #[.int .i64 0, .int .i64 0, .int .i64 0, .int .i64 0, .int .i64 0, .int .i64 0, .int .i64 0, .int .i64 0, .int .i64 0, .int .i64 0, .bool false, .int .i64 0, .int .i64 0], .int .i64 0, .agg #[.int .i64 0, .int .i64 0, .int .i64 0, .int .i64 0, .int .i64 0, .int .i64 0], .agg #[.int .i64 0, .int .i64 0, .int .i64 0, .int .i64 0, .int .i64 0], .int .i64 0, .int .i64 0], []⟩ 8 (by kernel_rfl) (by kernel_rfl) (by kernel_rfl) (by kernel_rfl)) ?_
  intro W base args ds gs before hval0 hW hcnd _
  have hval : ∀ (j : Nat) t v, Try.f3.params[j]? = some t → args[j]? = some v → Value.okWide Try.prog W .any base t v := hval0
  have hW' := hW
  obtain ⟨p, q, hA0, hV, rfl, hfz, hnd⟩ := hW
  have hA : DataW.TrodAll enc Try.prog W 0 (fun _ => true) true Try.f3.params.toList args.toList ds p := hA0
  rw [Try.params3] at hA hval
  obtain ⟨v0, vs0, d0, ds0, p0_, q0, hargs, rfl, rfl, h0, r0⟩ := trodAll_cons hA
  obtain ⟨v1, vs1, d1, ds1, p1_, q1, rfl, rfl, rfl, h1, r1⟩ := trodAll_cons r0
  obtain ⟨v2, vs2, d2, ds2, p2_, q2, rfl, rfl, rfl, h2, r2⟩ := trodAll_cons r1
  obtain ⟨v3, vs3, d3, ds3, p3_, q3, rfl, rfl, rfl, h3, r3⟩ := trodAll_cons r2
  obtain ⟨v4, vs4, d4, ds4, p4_, q4, rfl, rfl, rfl, h4, r4⟩ := trodAll_cons r3
  obtain ⟨v5, vs5, d5, ds5, p5_, q5, rfl, rfl, rfl, h5, r5⟩ := trodAll_cons r4
  obtain ⟨rfl, rfl, rfl⟩ := trodAll_nil r5
  obtain rfl : args = #[v0, v1, v2, v3, v4, v5] := by cases args; simp_all
  obtain ⟨rfl, rfl⟩ := trodVars_none hV
  obtain ⟨cs0, rfl, hsz0⟩ := okWide_struct Try.underlying23 (hval 0 23 v0 rfl rfl)
  have k0 := h0
  have lt0 : ∀ x ∈ p0_, x.block < W.heap.size := by obtain ⟨m, hm⟩ := k0; exact DataW.trod_lt m _ _ _ hm
  obtain ⟨x0, w0⟩ := of_arg of_rec k0
  obtain ⟨a1, rfl, rfl, rfl, w1⟩ := open_int Try.underlying3 (hval 1 3 v1 rfl rfl) h1
  obtain ⟨cs2, rfl, hsz2⟩ := okWide_array Try.underlying24 (hval 2 24 v2 rfl rfl)
  have k2 := h2
  have lt2 : ∀ x ∈ p2_, x.block < W.heap.size := by obtain ⟨m, hm⟩ := k2; exact DataW.trod_lt m _ _ _ hm
  obtain ⟨x2, w2⟩ := of_arg (of_arr (n := 6) (size := 1) (of_int Try.underlying2) Try.underlying24 (by kernel_rfl) (by kernel_rfl)) k2
  obtain ⟨cs3, rfl, hsz3⟩ := okWide_struct Try.underlying26 (hval 3 26 v3 rfl rfl)
  have k3 := h3
  have lt3 : ∀ x ∈ p3_, x.block < W.heap.size := by obtain ⟨m, hm⟩ := k3; exact DataW.trod_lt m _ _ _ hm
  obtain ⟨x3, w3⟩ := of_arg of_note k3
  obtain ⟨a4, rfl, rfl, rfl, w4⟩ := open_int Try.underlying2 (hval 4 2 v4 rfl rfl) h4
  obtain ⟨a5, rfl, rfl, rfl, w5⟩ := open_int Try.underlying2 (hval 5 2 v5 rfl rfl) h5
  clear hA0 hval0
  refine (walk cs0 x0 a1 cs2 x2 cs3 x3 a4 a5 W w0 w1 w2 w3 w4 w5).mono fun e W' ⟨he, bel⟩ => ?_
  subst he
  exact ⟨_, rfl, _, _, _, [], _, [], hW', trodAll_mk1 (shut_bool Try.underlying4 _), (trodAll_cons_mk (Below.trod laidOut (by kernel_rfl) (of_decide_eq_true (by kernel_rfl)) k0 bel lt0) (trodAll_cons_mk (shut_int Try.underlying3 w1) (trodAll_cons_mk (Below.trod laidOut (by kernel_rfl) (of_decide_eq_true (by kernel_rfl)) k2 bel lt2) (trodAll_cons_mk (Below.trod laidOut (by kernel_rfl) (of_decide_eq_true (by kernel_rfl)) k3 bel lt3) (trodAll_cons_mk (shut_int Try.underlying2 w4) (trodAll_cons_mk (shut_int Try.underlying2 w5) trodAll_mk0)))))), rfl, bel.frame _, fun h => by cases h⟩

theorem over : Rows.recRightRow.holds Try.pinned (OpenSpec.ofChange Rows.recRightSpec) :=
  OpenClaim.holds_of_wide 3 Try.f3 rfl rfl rfl rfl rfl rfl rfl ⟨rfl, rfl, rfl, rfl, rfl⟩ rfl rfl rfl rfl rfl (by kernel_rfl) Try.func3 (by kernel_rfl)
    (of_decide_eq_true (by kernel_rfl)) (by unfold Func.isWrapper; first | (rw [if_pos (by decide +kernel)]; kernel_rfl) | (rw [if_neg (by decide +kernel)]; exact ⟨rfl, rfl⟩))
    (fun os started H enc _ => lifted os started H enc)

theorem proved : Rows.RecRightSaid := over
#print axioms proved
end Go.Proofs.Ytbahlgijiglbdaa.recRight
