/-
  PROVED: the law OrderRight answers true at every input, and leaves what it was given as it was.
  CONDITIONS: none.
-/
import Derived.Test.YtfnapckjccjjjaaRows
import Derived.WalkKit
import Derived.ProofKit
import Derived.OpenShut
import Derived.ShutString
import Derived.ChangeOld
import Derived.Below
import Derived.Deep.RegionHeld
import Derived.Deep.DrawnRows
import Derived.Deep.DeepCutAuto
import Derived.Test.YtfnapckjccjjjaaOrdRef4
import Derived.Test.YtfnapckjccjjjaaOrdRef3
import Derived.Test.YtfnapckjccjjjaaOrdRef2
import Derived.Test.YtfnapckjccjjjaaAwake07
import Derived.Test.YtfnapckjccjjjaaOrdEq
namespace Go.Proofs.Ytfnapckjccjjjaa.orderRight
open Go.ChangeShapes Go.WideShapes Go.ChangeAt Go.RowKit
open Go.ChangeMaps (open_string shut_string)
open Go.Proofs.Ytfnapckjccjjjaa Go.Proofs.Ytfnapckjccjjjaa.order
open Go.Proofs.Ytfnapckjccjjjaa.rec (cells13)
attribute [local go_sem] undef
attribute [local go_sem ↓] Go.wp_at_zero Go.wp_at_succ
set_option linter.unusedVariables false

theorem own : ownKnob Try.prog.godebug = none := by kernel_rfl
theorem laidOut : laidOutB Try.prog = true := by kernel_rfl

set_option maxHeartbeats 8000000 in
set_option maxRecDepth 100000 in
theorem walk (cs0 : Array Value) (x0 : OrderD) (cs1 : Array Value) (x1 : RecD) (cs2 : Array Value) (x2 : NoteD) (a3 : Int) (a4 : Int) (w : World) (w0 : rdOrder w (Lt w.heap.size) cs0.toList x0) (w1 : rdRec w (Lt w.heap.size) cs1.toList x1) (w2 : rdNote w (Lt w.heap.size) cs2.toList x2) (w3 : (Lit.int .i64 a3).wf = true) (w4 : (Lit.int .i64 a4).wf = true) :
    Calls Try.prog 3 #[.agg cs0, .agg cs1, .agg cs2, .int .i64 a3, .int .i64 a4] w fun e w' => e = .returned (.bool true) ∧ Below w.heap.size w w' := by
  -- WALK BEGINS
  obtain ⟨hc0, hf0⟩ := w0
  obtain rfl : cs0 = oc x0 := by apply Array.toList_inj.1; exact hc0
  clear hc0
  obtain ⟨i, a, y, d, q, p, f, ph, m, r, v, g⟩ := x0
  obtain ⟨hc1, hf1⟩ := w1
  obtain rfl : cs1 = rec.rc x1 := by apply Array.toList_inj.1; exact hc1
  clear hc1
  obtain ⟨kR, oR, aR, yR, dR, qR, pR, lR, sR, nR, onR, zR, tR⟩ := x1
  obtain ⟨hc2, hf2⟩ := w2
  obtain rfl : cs2 = nt x2 := by apply Array.toList_inj.1; exact hc2
  clear hc2
  obtain ⟨zN, tN, oN, qN, pN⟩ := x2
  show Calls Try.prog 3 #[.agg #[.int .i64 i, .int .i64 a, .int .i64 y, .int .i64 d, .int .i64 q, .int .i64 p, .int .i64 f, .int .i64 ph, .int .i64 m, .int .i64 r, .int .i64 v, .bool g], .agg #[.int .i64 kR, .int .i64 oR, .int .i64 aR, .int .i64 yR, .int .i64 dR, .int .i64 qR, .int .i64 pR, .int .i64 lR, .int .i64 sR, .int .i64 nR, .bool onR, .int .i64 zR, .int .i64 tR], .agg #[.int .i64 zN, .int .i64 tN, .int .i64 oN, .int .i64 qN, .int .i64 pN], .int .i64 a3, .int .i64 a4] w _
  obtain ⟨W0, HW0⟩ : ∃ W, Hid ((((w.alloc (.cells #[.int .i64 i, .int .i64 a, .int .i64 y, .int .i64 d, .int .i64 q, .int .i64 p, .int .i64 f, .int .i64 ph, .int .i64 m, .int .i64 r, .int .i64 v, .bool g] 23)).alloc (.cells #[.int .i64 kR, .int .i64 oR, .int .i64 aR, .int .i64 yR, .int .i64 dR, .int .i64 qR, .int .i64 pR, .int .i64 lR, .int .i64 sR, .int .i64 nR, .bool onR, .int .i64 zR, .int .i64 tR] 25)).alloc (.cells #[.int .i64 zN, .int .i64 tN, .int .i64 oN, .int .i64 qN, .int .i64 pN] 27)) = W) := ⟨_, Lib.hid rfl⟩
  have HBW : Hid (Below w.heap.size w W0) := Lib.hid (by rw [← HW0.out]; exact (((Below.refl _ _).alloc (by simp) _).alloc (by simp; try omega) _).alloc (by simp; try omega) _)
  have HX0 : Hid (∀ W, Below W0.heap.size W0 W → W.heap[w.heap.size]? = some (.cells #[.int .i64 i, .int .i64 a, .int .i64 y, .int .i64 d, .int .i64 q, .int .i64 p, .int .i64 f, .int .i64 ph, .int .i64 m, .int .i64 r, .int .i64 v, .bool g] 23 (0, 0))) := Lib.hid (fun W hb => (hb.block _ (by rw [← HW0.out]; simp; try omega)).trans (by rw [← HW0.out]; refine (Below.heap_alloc _ _ _ (by simp; try omega)).trans ?_; refine (Below.heap_alloc _ _ _ (by simp; try omega)).trans ?_; have := heap_alloc_new w (.cells #[.int .i64 i, .int .i64 a, .int .i64 y, .int .i64 d, .int .i64 q, .int .i64 p, .int .i64 f, .int .i64 ph, .int .i64 m, .int .i64 r, .int .i64 v, .bool g] 23); exact this))
  have HX1 : Hid (∀ W, Below W0.heap.size W0 W → W.heap[w.heap.size + 1]? = some (.cells #[.int .i64 kR, .int .i64 oR, .int .i64 aR, .int .i64 yR, .int .i64 dR, .int .i64 qR, .int .i64 pR, .int .i64 lR, .int .i64 sR, .int .i64 nR, .bool onR, .int .i64 zR, .int .i64 tR] 25 (0, 0))) := Lib.hid (fun W hb => (hb.block _ (by rw [← HW0.out]; simp; try omega)).trans (by rw [← HW0.out]; refine (Below.heap_alloc _ _ _ (by simp; try omega)).trans ?_; have := heap_alloc_new (w.alloc (.cells #[.int .i64 i, .int .i64 a, .int .i64 y, .int .i64 d, .int .i64 q, .int .i64 p, .int .i64 f, .int .i64 ph, .int .i64 m, .int .i64 r, .int .i64 v, .bool g] 23)) (.cells #[.int .i64 kR, .int .i64 oR, .int .i64 aR, .int .i64 yR, .int .i64 dR, .int .i64 qR, .int .i64 pR, .int .i64 lR, .int .i64 sR, .int .i64 nR, .bool onR, .int .i64 zR, .int .i64 tR] 25); simp only [World.size_alloc] at this; exact this))
  have HX2 : Hid (∀ W, Below W0.heap.size W0 W → W.heap[w.heap.size + 1 + 1]? = some (.cells #[.int .i64 zN, .int .i64 tN, .int .i64 oN, .int .i64 qN, .int .i64 pN] 27 (0, 0))) := Lib.hid (fun W hb => (hb.block _ (by rw [← HW0.out]; simp; try omega)).trans (by rw [← HW0.out]; have := heap_alloc_new ((w.alloc (.cells #[.int .i64 i, .int .i64 a, .int .i64 y, .int .i64 d, .int .i64 q, .int .i64 p, .int .i64 f, .int .i64 ph, .int .i64 m, .int .i64 r, .int .i64 v, .bool g] 23)).alloc (.cells #[.int .i64 kR, .int .i64 oR, .int .i64 aR, .int .i64 yR, .int .i64 dR, .int .i64 qR, .int .i64 pR, .int .i64 lR, .int .i64 sR, .int .i64 nR, .bool onR, .int .i64 zR, .int .i64 tR] 25)) (.cells #[.int .i64 zN, .int .i64 tN, .int .i64 oN, .int .i64 qN, .int .i64 pN] 27); simp only [World.size_alloc] at this; exact this))
  have HF := Lib.hid hf0
  have HFR := Lib.hid hf1
  have HN : Hid (frame.inR zN ∧ frame.inR tN ∧ frame.inR oN ∧ frame.inR qN ∧ frame.inR pN) := Lib.hid hf2
  have HI : Hid (frame.inR a3 ∧ frame.inR a4) := Lib.hid ⟨inI_of_wf w3, inI_of_wf w4⟩
  obtain ⟨c, HC⟩ : ∃ x, Hid (right ⟨i, a, y, d, q, p, f, ph, m, r, v, g⟩ = x) := ⟨_, Lib.hid rfl⟩
  obtain ⟨⟨⟨iA, aA, yA, dA, qA, pA, fA, phA, mA, rA, vA, gA⟩, eb⟩, h1⟩ : ∃ x, begin_ ⟨kR, oR, aR, yR, dR, qR, pR, lR, sR, nR, onR, zR, tR⟩ = x := ⟨_, rfl⟩
  obtain ⟨⟨⟨iB, aB, yB, dB, qB, pB, fB, phB, mB, rB, vB, gB⟩, et⟩, h2⟩ : ∃ x, take ⟨i, a, y, d, q, p, f, ph, m, r, v, g⟩ ⟨zN, tN, oN, qN, pN⟩ = x := ⟨_, rfl⟩
  obtain ⟨⟨⟨iC, aC, yC, dC, qC, pC, fC, phC, mC, rC, vC, gC⟩, ec⟩, h3⟩ : ∃ x, change ⟨i, a, y, d, q, p, f, ph, m, r, v, g⟩ a3 a4 = x := ⟨_, rfl⟩
  obtain ⟨⟨⟨iD, aD, yD, dD, qD, pD, fD, phD, mD, rD, vD, gD⟩, es⟩, h4⟩ : ∃ x, stop ⟨i, a, y, d, q, p, f, ph, m, r, v, g⟩ = x := ⟨_, rfl⟩
  obtain ⟨⟨g1, e1⟩, h5⟩ : ∃ x, worth ⟨i, a, y, d, q, p, f, ph, m, r, v, g⟩ = x := ⟨_, rfl⟩
  obtain ⟨n1, h6⟩ : ∃ x, open_ ⟨i, a, y, d, q, p, f, ph, m, r, v, g⟩ = x := ⟨_, rfl⟩
  have HFA : Hid ((⟨iA, aA, yA, dA, qA, pA, fA, phA, mA, rA, vA, gA⟩ : Or).fine) := Lib.hid (by have := begin_fine hf1; rw [h1] at this; exact this)
  have HFB : Hid ((⟨iB, aB, yB, dB, qB, pB, fB, phB, mB, rB, vB, gB⟩ : Or).fine) := Lib.hid (take_fine hf0 h2)
  have HFC : Hid ((⟨iC, aC, yC, dC, qC, pC, fC, phC, mC, rC, vC, gC⟩ : Or).fine) := Lib.hid (change_fine hf0 HI.out.1 HI.out.2 h3)
  have HFD : Hid ((⟨iD, aD, yD, dD, qD, pD, fD, phD, mD, rD, vD, gD⟩ : Or).fine) := Lib.hid (stop_fine hf0 h4)
  have HEB : Hid (eb = 0 ∨ eb = 1) := Lib.hid (by rcases begin_err h1 with h | h; exact .inl h; exact .inr h.1)
  have H1 := Lib.hid h1
  have H2 := Lib.hid h2
  have H3 := Lib.hid h3
  have H4 := Lib.hid h4
  have H5 := Lib.hid h5
  have H6 := Lib.hid h6
  have heqA : ∀ W, (Op.equalIn 10000 23 (.agg #[.int .i64 iA, .int .i64 aA, .int .i64 yA, .int .i64 dA, .int .i64 qA, .int .i64 pA, .int .i64 fA, .int .i64 phA, .int .i64 mA, .int .i64 rA, .int .i64 vA, .bool gA]) (.agg #[.int .i64 iA, .int .i64 aA, .int .i64 yA, .int .i64 dA, .int .i64 qA, .int .i64 pA, .int .i64 fA, .int .i64 phA, .int .i64 mA, .int .i64 rA, .int .i64 vA, .bool gA])).run Try.prog W = .ok true W := fun W => eq12_of rfl rfl HFA.out HFA.out (decide_eq_true rfl) W
  have heqB : ∀ W, (Op.equalIn 10000 23 (.agg #[.int .i64 iB, .int .i64 aB, .int .i64 yB, .int .i64 dB, .int .i64 qB, .int .i64 pB, .int .i64 fB, .int .i64 phB, .int .i64 mB, .int .i64 rB, .int .i64 vB, .bool gB]) (.agg #[.int .i64 iB, .int .i64 aB, .int .i64 yB, .int .i64 dB, .int .i64 qB, .int .i64 pB, .int .i64 fB, .int .i64 phB, .int .i64 mB, .int .i64 rB, .int .i64 vB, .bool gB])).run Try.prog W = .ok true W := fun W => eq12_of rfl rfl HFB.out HFB.out (decide_eq_true rfl) W
  have heqC : ∀ W, (Op.equalIn 10000 23 (.agg #[.int .i64 iC, .int .i64 aC, .int .i64 yC, .int .i64 dC, .int .i64 qC, .int .i64 pC, .int .i64 fC, .int .i64 phC, .int .i64 mC, .int .i64 rC, .int .i64 vC, .bool gC]) (.agg #[.int .i64 iC, .int .i64 aC, .int .i64 yC, .int .i64 dC, .int .i64 qC, .int .i64 pC, .int .i64 fC, .int .i64 phC, .int .i64 mC, .int .i64 rC, .int .i64 vC, .bool gC])).run Try.prog W = .ok true W := fun W => eq12_of rfl rfl HFC.out HFC.out (decide_eq_true rfl) W
  have heqD : ∀ W, (Op.equalIn 10000 23 (.agg #[.int .i64 iD, .int .i64 aD, .int .i64 yD, .int .i64 dD, .int .i64 qD, .int .i64 pD, .int .i64 fD, .int .i64 phD, .int .i64 mD, .int .i64 rD, .int .i64 vD, .bool gD]) (.agg #[.int .i64 iD, .int .i64 aD, .int .i64 yD, .int .i64 dD, .int .i64 qD, .int .i64 pD, .int .i64 fD, .int .i64 phD, .int .i64 mD, .int .i64 rD, .int .i64 vD, .bool gD])).run Try.prog W = .ok true W := fun W => eq12_of rfl rfl HFD.out HFD.out (decide_eq_true rfl) W
  clear hf0 hf1 hf2 h1 h2 h3 h4 h5 h6 w3 w4
  go_enter Try.func3, Try.ntmps3
  go_wp2_with fail
  refine Calls.mono (order.awake_any _) ?_
  rintro e1 W1 ⟨rfl, hb⟩
  rw [HW0.out] at hb
  have HB0_1 : Hid (Below W0.heap.size W0 W1) := Lib.hid (hb)
  clear hb
  obtain ⟨r_0, r_1, r_2, r_3, r_4, r_5, r_6, r_7, r_8, r_9, r_10, r_11, r_12⟩ := cells13 (HX1.out W1 HB0_1.out)
  go_wp2_with fail
  refine Calls.mono (order.begin_is kR oR aR yR dR qR pR lR sR nR onR zR tR HFR.out H1.out _) ?_
  rintro e2 W2 ⟨rfl, hb⟩
  have HB0_2 : Hid (Below W0.heap.size W0 W2) := Lib.hid (HB0_1.out.trans ((hb : Below W1.heap.size W1 W2).mono HB0_1.out.size))
  have HB1_2 : Hid (Below W1.heap.size W1 W2) := Lib.hid (hb)
  clear hb
  clear r_0 r_1 r_2 r_3 r_4 r_5 r_6 r_7 r_8 r_9 r_10 r_11 r_12
  have NE_x_o : Hid (w.heap.size ≠ W2.heap.size) := Lib.hid (Nat.ne_of_lt (Array.getElem?_eq_some_iff.1 (HX0.out W2 HB0_2.out)).1)
  have NE_x_r : Hid (w.heap.size + 1 ≠ W2.heap.size) := Lib.hid (Nat.ne_of_lt (Array.getElem?_eq_some_iff.1 (HX1.out W2 HB0_2.out)).1)
  have NE_x_n : Hid (w.heap.size + 1 + 1 ≠ W2.heap.size) := Lib.hid (Nat.ne_of_lt (Array.getElem?_eq_some_iff.1 (HX2.out W2 HB0_2.out)).1)
  have LE_x : Hid (W0.heap.size ≤ W2.heap.size) := Lib.hid (HB0_2.out).size
  obtain ⟨W3, HW3⟩ : ∃ W, Hid ((W2.alloc (.cells #[.int .i64 iA, .int .i64 aA, .int .i64 yA, .int .i64 dA, .int .i64 qA, .int .i64 pA, .int .i64 fA, .int .i64 phA, .int .i64 mA, .int .i64 rA, .int .i64 vA, .bool gA] 23)) = W) := ⟨_, Lib.hid rfl⟩
  have HB0_3 : Hid (Below W0.heap.size W0 W3) := Lib.hid (HB0_2.out.trans ((by rw [← HW3.out]; exact (Below.refl _ _).alloc (Nat.le_refl _) _ : Below W2.heap.size W2 W3).mono HB0_2.out.size))
  have HB1_3 : Hid (Below W1.heap.size W1 W3) := Lib.hid (HB1_2.out.trans ((by rw [← HW3.out]; exact (Below.refl _ _).alloc (Nat.le_refl _) _ : Below W2.heap.size W2 W3).mono HB1_2.out.size))
  have HB2_3 : Hid (Below W2.heap.size W2 W3) := Lib.hid (by rw [← HW3.out]; exact (Below.refl _ _).alloc (Nat.le_refl _) _)
  have HX_x : Hid (∀ W, Below W3.heap.size W3 W → W.heap[W2.heap.size]? = some (.cells #[.int .i64 iA, .int .i64 aA, .int .i64 yA, .int .i64 dA, .int .i64 qA, .int .i64 pA, .int .i64 fA, .int .i64 phA, .int .i64 mA, .int .i64 rA, .int .i64 vA, .bool gA] 23 (0, 0))) := Lib.hid (fun W hb => (hb.block _ (by rw [← HW3.out]; simp)).trans (by rw [← HW3.out]; exact heap_alloc_new _ _))
  obtain ⟨r_0, r_1, r_2, r_3, r_4, r_5, r_6, r_7, r_8, r_9, r_10, r_11, r_12⟩ := cells13 (HX1.out W3 HB0_3.out)
  rw [← HW3.out] at r_0 r_1 r_2 r_3 r_4 r_5 r_6 r_7 r_8 r_9 r_10 r_11 r_12
  go_wp2_with fail
  refine Calls.mono (order.rbegin_is kR oR aR yR dR qR pR lR sR nR onR zR tR HFR.out H1.out _) ?_
  rintro e4 W4 ⟨rfl, hb⟩
  rw [HW3.out] at hb
  have HB0_4 : Hid (Below W0.heap.size W0 W4) := Lib.hid (HB0_3.out.trans ((hb : Below W3.heap.size W3 W4).mono HB0_3.out.size))
  have HB1_4 : Hid (Below W1.heap.size W1 W4) := Lib.hid (HB1_3.out.trans ((hb : Below W3.heap.size W3 W4).mono HB1_3.out.size))
  have HB2_4 : Hid (Below W2.heap.size W2 W4) := Lib.hid (HB2_3.out.trans ((hb : Below W3.heap.size W3 W4).mono HB2_3.out.size))
  have HB3_4 : Hid (Below W3.heap.size W3 W4) := Lib.hid (hb)
  clear hb
  clear r_0 r_1 r_2 r_3 r_4 r_5 r_6 r_7 r_8 r_9 r_10 r_11 r_12
  have NE_z_o : Hid (w.heap.size ≠ W4.heap.size) := Lib.hid (Nat.ne_of_lt (Array.getElem?_eq_some_iff.1 (HX0.out W4 HB0_4.out)).1)
  have NE_z_r : Hid (w.heap.size + 1 ≠ W4.heap.size) := Lib.hid (Nat.ne_of_lt (Array.getElem?_eq_some_iff.1 (HX1.out W4 HB0_4.out)).1)
  have NE_z_n : Hid (w.heap.size + 1 + 1 ≠ W4.heap.size) := Lib.hid (Nat.ne_of_lt (Array.getElem?_eq_some_iff.1 (HX2.out W4 HB0_4.out)).1)
  have NE_z_x : Hid (W2.heap.size ≠ W4.heap.size) := Lib.hid (Nat.ne_of_lt (Array.getElem?_eq_some_iff.1 (HX_x.out W4 HB3_4.out)).1)
  have LE_z : Hid (W0.heap.size ≤ W4.heap.size) := Lib.hid (HB0_4.out).size
  obtain ⟨W5, HW5⟩ : ∃ W, Hid ((W4.alloc (.cells #[.int .i64 iA, .int .i64 aA, .int .i64 yA, .int .i64 dA, .int .i64 qA, .int .i64 pA, .int .i64 fA, .int .i64 phA, .int .i64 mA, .int .i64 rA, .int .i64 vA, .bool gA] 23)) = W) := ⟨_, Lib.hid rfl⟩
  have HB0_5 : Hid (Below W0.heap.size W0 W5) := Lib.hid (HB0_4.out.trans ((by rw [← HW5.out]; exact (Below.refl _ _).alloc (Nat.le_refl _) _ : Below W4.heap.size W4 W5).mono HB0_4.out.size))
  have HB1_5 : Hid (Below W1.heap.size W1 W5) := Lib.hid (HB1_4.out.trans ((by rw [← HW5.out]; exact (Below.refl _ _).alloc (Nat.le_refl _) _ : Below W4.heap.size W4 W5).mono HB1_4.out.size))
  have HB2_5 : Hid (Below W2.heap.size W2 W5) := Lib.hid (HB2_4.out.trans ((by rw [← HW5.out]; exact (Below.refl _ _).alloc (Nat.le_refl _) _ : Below W4.heap.size W4 W5).mono HB2_4.out.size))
  have HB3_5 : Hid (Below W3.heap.size W3 W5) := Lib.hid (HB3_4.out.trans ((by rw [← HW5.out]; exact (Below.refl _ _).alloc (Nat.le_refl _) _ : Below W4.heap.size W4 W5).mono HB3_4.out.size))
  have HB4_5 : Hid (Below W4.heap.size W4 W5) := Lib.hid (by rw [← HW5.out]; exact (Below.refl _ _).alloc (Nat.le_refl _) _)
  have HX_z : Hid (∀ W, Below W5.heap.size W5 W → W.heap[W4.heap.size]? = some (.cells #[.int .i64 iA, .int .i64 aA, .int .i64 yA, .int .i64 dA, .int .i64 qA, .int .i64 pA, .int .i64 fA, .int .i64 phA, .int .i64 mA, .int .i64 rA, .int .i64 vA, .bool gA] 23 (0, 0))) := Lib.hid (fun W hb => (hb.block _ (by rw [← HW5.out]; simp)).trans (by rw [← HW5.out]; exact heap_alloc_new _ _))
  go_upto_region 5 with fail
  go_cut [53] (fun s wx => s = .bool false ∧ Below W5.heap.size W5 wx)
  case first =>
    rcases HEB.out with rfl | rfl
    · rw [HW5.out]
      refine wp_region_held_drew (S := fun W => Below W5.heap.size W5 W) (by kernel_rfl) (Below.refl _ _).drew (fun _ => ?_)
      obtain ⟨W6, hW6⟩ : ∃ x, x = W5.drew := ⟨_, rfl⟩
      rw [← hW6]
      have HB0_6 : Hid (Below W0.heap.size W0 W6) := Lib.hid (HB0_5.out.trans ((by rw [hW6]; exact (Below.refl _ _).drew : Below W5.heap.size W5 W6).mono HB0_5.out.size))
      have HB1_6 : Hid (Below W1.heap.size W1 W6) := Lib.hid (HB1_5.out.trans ((by rw [hW6]; exact (Below.refl _ _).drew : Below W5.heap.size W5 W6).mono HB1_5.out.size))
      have HB2_6 : Hid (Below W2.heap.size W2 W6) := Lib.hid (HB2_5.out.trans ((by rw [hW6]; exact (Below.refl _ _).drew : Below W5.heap.size W5 W6).mono HB2_5.out.size))
      have HB3_6 : Hid (Below W3.heap.size W3 W6) := Lib.hid (HB3_5.out.trans ((by rw [hW6]; exact (Below.refl _ _).drew : Below W5.heap.size W5 W6).mono HB3_5.out.size))
      have HB4_6 : Hid (Below W4.heap.size W4 W6) := Lib.hid (HB4_5.out.trans ((by rw [hW6]; exact (Below.refl _ _).drew : Below W5.heap.size W5 W6).mono HB4_5.out.size))
      have HB5_6 : Hid (Below W5.heap.size W5 W6) := Lib.hid (by rw [hW6]; exact (Below.refl _ _).drew)
      clear hW6
      refine wpAnyH_take (i := 0) (v := .agg #[.int .i64 i, .int .i64 a, .int .i64 y, .int .i64 d, .int .i64 q, .int .i64 p, .int .i64 f, .int .i64 ph, .int .i64 m, .int .i64 r, .int .i64 v, .bool g]) rfl (by kernel_rfl) (by kernel_rfl) (by kernel_rfl) (fun _ _ _ h => h) (Or.inl ⟨by kernel_rfl, ?h0⟩) HB5_6.out ?_
      case h0 => (intro WX hWX; obtain ⟨y0_0, y0_1, y0_2, y0_3, y0_4, y0_5, y0_6, y0_7, y0_8, y0_9, y0_10, y0_11⟩ := cells12 (HX0.out WX (HB0_5.out.trans ((show Below W5.heap.size W5 WX from hWX).mono HB0_5.out.size))); go_simp)
      go_simp
      refine wpAnyH_take (i := 2) (v := .agg #[.int .i64 i, .int .i64 a, .int .i64 y, .int .i64 d, .int .i64 q, .int .i64 p, .int .i64 f, .int .i64 ph, .int .i64 m, .int .i64 r, .int .i64 v, .bool g]) rfl (by kernel_rfl) (by kernel_rfl) (by kernel_rfl) (fun _ _ _ h => h) (Or.inl ⟨by kernel_rfl, ?h2⟩) HB5_6.out ?_
      case h2 => (intro WX hWX; obtain ⟨y0_0, y0_1, y0_2, y0_3, y0_4, y0_5, y0_6, y0_7, y0_8, y0_9, y0_10, y0_11⟩ := cells12 (HX0.out WX (HB0_5.out.trans ((show Below W5.heap.size W5 WX from hWX).mono HB0_5.out.size))); go_simp)
      go_simp
      refine wpAnyH_ready (rs := [1]) (by kernel_rfl) (by simp) ?_
      refine AllReadyH.cons rfl (fun K hK => ?_) AllReadyH.nil
      go_simp
      go_wp2_with (refine Calls.mono (order.right_is i a y d q p f ph m r v g HF.out HC.out _) ?_; rintro e7 W7 ⟨rfl, hb⟩)
      have HB0_7 : Hid (Below W0.heap.size W0 W7) := Lib.hid (HB0_6.out.trans ((hb : Below W6.heap.size W6 W7).mono HB0_6.out.size))
      have HB1_7 : Hid (Below W1.heap.size W1 W7) := Lib.hid (HB1_6.out.trans ((hb : Below W6.heap.size W6 W7).mono HB1_6.out.size))
      have HB2_7 : Hid (Below W2.heap.size W2 W7) := Lib.hid (HB2_6.out.trans ((hb : Below W6.heap.size W6 W7).mono HB2_6.out.size))
      have HB3_7 : Hid (Below W3.heap.size W3 W7) := Lib.hid (HB3_6.out.trans ((hb : Below W6.heap.size W6 W7).mono HB3_6.out.size))
      have HB4_7 : Hid (Below W4.heap.size W4 W7) := Lib.hid (HB4_6.out.trans ((hb : Below W6.heap.size W6 W7).mono HB4_6.out.size))
      have HB5_7 : Hid (Below W5.heap.size W5 W7) := Lib.hid (HB5_6.out.trans ((hb : Below W6.heap.size W6 W7).mono HB5_6.out.size))
      have HB6_7 : Hid (Below W6.heap.size W6 W7) := Lib.hid (hb)
      clear hb
      refine hK.out _ _ HB5_7.out (fun _ => ?_)
      clear hK K
      go_simp
      refine wpAnyH_ready (rs := [3]) (by kernel_rfl) (by simp) ?_
      refine AllReadyH.cons rfl (fun K hK => ?_) AllReadyH.nil
      go_simp
      go_wp2_with (refine Calls.mono (order.rright_is i a y d q p f ph m r v g HF.out HC.out _) ?_; rintro e8 W8 ⟨rfl, hb⟩)
      have HB0_8 : Hid (Below W0.heap.size W0 W8) := Lib.hid (HB0_7.out.trans ((hb : Below W7.heap.size W7 W8).mono HB0_7.out.size))
      have HB1_8 : Hid (Below W1.heap.size W1 W8) := Lib.hid (HB1_7.out.trans ((hb : Below W7.heap.size W7 W8).mono HB1_7.out.size))
      have HB2_8 : Hid (Below W2.heap.size W2 W8) := Lib.hid (HB2_7.out.trans ((hb : Below W7.heap.size W7 W8).mono HB2_7.out.size))
      have HB3_8 : Hid (Below W3.heap.size W3 W8) := Lib.hid (HB3_7.out.trans ((hb : Below W7.heap.size W7 W8).mono HB3_7.out.size))
      have HB4_8 : Hid (Below W4.heap.size W4 W8) := Lib.hid (HB4_7.out.trans ((hb : Below W7.heap.size W7 W8).mono HB4_7.out.size))
      have HB5_8 : Hid (Below W5.heap.size W5 W8) := Lib.hid (HB5_7.out.trans ((hb : Below W7.heap.size W7 W8).mono HB5_7.out.size))
      have HB6_8 : Hid (Below W6.heap.size W6 W8) := Lib.hid (HB6_7.out.trans ((hb : Below W7.heap.size W7 W8).mono HB6_7.out.size))
      have HB7_8 : Hid (Below W7.heap.size W7 W8) := Lib.hid (hb)
      clear hb
      refine hK.out _ _ HB5_8.out (fun _ => ?_)
      clear hK K
      go_simp
      refine wpAnyH_take (i := 4) (v := .bool false) rfl (by kernel_rfl) (by kernel_rfl) (by kernel_rfl) (fun _ _ _ h => h) (Or.inl ⟨by kernel_rfl, ?h4⟩) HB5_8.out ?_
      case h4 => (intro WX hWX; go_simp)
      go_simp
      refine wpAnyH_take (i := 5) (v := .bool false) rfl (by kernel_rfl) (by kernel_rfl) (by kernel_rfl) (fun _ _ _ h => h) (Or.inl ⟨by kernel_rfl, ?h5⟩) HB5_8.out ?_
      case h5 => (intro WX hWX; go_simp)
      go_simp
      refine wpAnyH_take (i := 6) (v := .agg #[.int .i64 iA, .int .i64 aA, .int .i64 yA, .int .i64 dA, .int .i64 qA, .int .i64 pA, .int .i64 fA, .int .i64 phA, .int .i64 mA, .int .i64 rA, .int .i64 vA, .bool gA]) rfl (by kernel_rfl) (by kernel_rfl) (by kernel_rfl) (fun _ _ _ h => h) (Or.inl ⟨by kernel_rfl, ?h6⟩) HB5_8.out ?_
      case h6 => (intro WX hWX; obtain ⟨y0_0, y0_1, y0_2, y0_3, y0_4, y0_5, y0_6, y0_7, y0_8, y0_9, y0_10, y0_11⟩ := cells12 (HX_x.out WX (HB3_5.out.trans ((show Below W5.heap.size W5 WX from hWX).mono HB3_5.out.size))); go_simp)
      go_simp
      refine wpAnyH_take (i := 7) (v := .agg #[.int .i64 iA, .int .i64 aA, .int .i64 yA, .int .i64 dA, .int .i64 qA, .int .i64 pA, .int .i64 fA, .int .i64 phA, .int .i64 mA, .int .i64 rA, .int .i64 vA, .bool gA]) rfl (by kernel_rfl) (by kernel_rfl) (by kernel_rfl) (fun _ _ _ h => h) (Or.inl ⟨by kernel_rfl, ?h7⟩) HB5_8.out ?_
      case h7 => (intro WX hWX; obtain ⟨y0_0, y0_1, y0_2, y0_3, y0_4, y0_5, y0_6, y0_7, y0_8, y0_9, y0_10, y0_11⟩ := cells12 (HX_z.out WX (show Below W5.heap.size W5 WX from hWX)); go_simp)
      go_simp
      refine wpAnyH_take (i := 8) (v := .bool false) rfl (by kernel_rfl) (by kernel_rfl) (by kernel_rfl) (fun _ _ _ h => h) (Or.inl ⟨by kernel_rfl, ?h8⟩) HB5_8.out ?_
      case h8 => (intro WX hWX; go_simp)
      go_simp
      refine wpAnyH_take (i := 9) (v := .bool false) rfl (by kernel_rfl) (by kernel_rfl) (by kernel_rfl) (fun _ _ _ h => h) (Or.inl ⟨by kernel_rfl, ?h9⟩) HB5_8.out ?_
      case h9 => (intro WX hWX; go_simp)
      go_simp
      refine wpAnyH_take (i := 10) (v := .bool false) rfl (by kernel_rfl) (by kernel_rfl) (by kernel_rfl) (fun _ _ _ h => h) (Or.inl ⟨by kernel_rfl, ?h10⟩) HB5_8.out ?_
      case h10 => (intro WX hWX; go_simp)
      go_simp
      refine wpAnyH_take (i := 11) (v := .int .i64 0) rfl (by kernel_rfl) (by kernel_rfl) (by kernel_rfl) (fun _ _ _ h => h) (Or.inl ⟨by kernel_rfl, ?h11⟩) HB5_8.out ?_
      case h11 => (intro WX hWX; go_simp)
      go_simp
      refine wpAnyH_take (i := 12) (v := .bool true) rfl (by kernel_rfl) (by kernel_rfl) (by kernel_rfl) (fun _ _ _ h => h) (Or.inl ⟨by kernel_rfl, ?h12⟩) HB5_8.out ?_
      case h12 => (intro WX hWX; go_simp)
      go_simp
      refine wpAnyH_take (i := 13) (v := .bool true) rfl (by kernel_rfl) (by kernel_rfl) (by kernel_rfl) (fun _ _ _ h => h) (Or.inl ⟨by kernel_rfl, ?h13⟩) HB5_8.out ?_
      case h13 => (intro WX hWX; go_simp)
      go_simp
      refine wpAnyH_take (i := 14) (v := .bool false) rfl (by kernel_rfl) (by kernel_rfl) (by kernel_rfl) (fun _ _ _ h => h) (Or.inl ⟨by kernel_rfl, ?h14⟩) HB5_8.out ?_
      case h14 => (intro WX hWX; go_simp)
      go_simp
      refine wpAnyH_take (i := 15) (v := .bool false) rfl (by kernel_rfl) (by kernel_rfl) (by kernel_rfl) (fun _ _ _ h => h) (Or.inl ⟨by kernel_rfl, ?h15⟩) HB5_8.out ?_
      case h15 => (intro WX hWX; go_simp)
      go_simp
      refine wpAnyH_take (i := 16) (v := .bool false) rfl (by kernel_rfl) (by kernel_rfl) (by kernel_rfl) (fun _ _ _ h => h) (Or.inl ⟨by kernel_rfl, ?h16⟩) HB5_8.out ?_
      case h16 => (intro WX hWX; go_simp)
      go_simp
      refine wpAnyH_take (i := 17) (v := .bool true) rfl (by kernel_rfl) (by kernel_rfl) (by kernel_rfl) (fun _ _ _ h => h) (Or.inl ⟨by kernel_rfl, ?h17⟩) HB5_8.out ?_
      case h17 => (intro WX hWX; go_simp)
      go_simp
      refine wpAnyH_take (i := 18) (v := .bool false) rfl (by kernel_rfl) (by kernel_rfl) (by kernel_rfl) (fun _ _ _ h => h) (Or.inl ⟨by kernel_rfl, ?h18⟩) HB5_8.out ?_
      case h18 => (intro WX hWX; go_simp)
      go_simp
      refine wpAnyH_take (i := 19) (v := .bool false) rfl (by kernel_rfl) (by kernel_rfl) (by kernel_rfl) (fun _ _ _ h => h) (Or.inl ⟨by kernel_rfl, ?h19⟩) HB5_8.out ?_
      case h19 => (intro WX hWX; go_simp)
      go_simp
      refine wpAnyH_take (i := 20) (v := undef) rfl (by kernel_rfl) (by kernel_rfl) (by kernel_rfl) (fun _ _ _ h => h) (Or.inr ⟨by kernel_rfl, rfl⟩) HB5_8.out ?_
      go_simp
      refine wpAnyH_take (i := 21) (v := undef) rfl (by kernel_rfl) (by kernel_rfl) (by kernel_rfl) (fun _ _ _ h => h) (Or.inr ⟨by kernel_rfl, rfl⟩) HB5_8.out ?_
      go_simp
      refine wpAnyH_take (i := 22) (v := .bool false) rfl (by kernel_rfl) (by kernel_rfl) (by kernel_rfl) (fun _ _ _ h => h) (Or.inl ⟨by kernel_rfl, ?h22⟩) HB5_8.out ?_
      case h22 => (intro WX hWX; go_simp)
      go_simp
      refine wpAnyH_take (i := 23) (v := .bool false) rfl (by kernel_rfl) (by kernel_rfl) (by kernel_rfl) (fun _ _ _ h => h) (Or.inl ⟨by kernel_rfl, ?h23⟩) HB5_8.out ?_
      case h23 => (intro WX hWX; go_simp)
      go_simp
      refine wpAnyH_done (by kernel_rfl) ?_ _
      go_wp2_with fail
      go_meet
      exact ⟨rfl, HB5_8.out⟩
    · rw [HW5.out]
      refine wp_region_held_drew (S := fun W => Below W5.heap.size W5 W) (by kernel_rfl) (Below.refl _ _).drew (fun _ => ?_)
      obtain ⟨W6, hW6⟩ : ∃ x, x = W5.drew := ⟨_, rfl⟩
      rw [← hW6]
      have HB0_6 : Hid (Below W0.heap.size W0 W6) := Lib.hid (HB0_5.out.trans ((by rw [hW6]; exact (Below.refl _ _).drew : Below W5.heap.size W5 W6).mono HB0_5.out.size))
      have HB1_6 : Hid (Below W1.heap.size W1 W6) := Lib.hid (HB1_5.out.trans ((by rw [hW6]; exact (Below.refl _ _).drew : Below W5.heap.size W5 W6).mono HB1_5.out.size))
      have HB2_6 : Hid (Below W2.heap.size W2 W6) := Lib.hid (HB2_5.out.trans ((by rw [hW6]; exact (Below.refl _ _).drew : Below W5.heap.size W5 W6).mono HB2_5.out.size))
      have HB3_6 : Hid (Below W3.heap.size W3 W6) := Lib.hid (HB3_5.out.trans ((by rw [hW6]; exact (Below.refl _ _).drew : Below W5.heap.size W5 W6).mono HB3_5.out.size))
      have HB4_6 : Hid (Below W4.heap.size W4 W6) := Lib.hid (HB4_5.out.trans ((by rw [hW6]; exact (Below.refl _ _).drew : Below W5.heap.size W5 W6).mono HB4_5.out.size))
      have HB5_6 : Hid (Below W5.heap.size W5 W6) := Lib.hid (by rw [hW6]; exact (Below.refl _ _).drew)
      clear hW6
      refine wpAnyH_take (i := 0) (v := .agg #[.int .i64 i, .int .i64 a, .int .i64 y, .int .i64 d, .int .i64 q, .int .i64 p, .int .i64 f, .int .i64 ph, .int .i64 m, .int .i64 r, .int .i64 v, .bool g]) rfl (by kernel_rfl) (by kernel_rfl) (by kernel_rfl) (fun _ _ _ h => h) (Or.inl ⟨by kernel_rfl, ?h0⟩) HB5_6.out ?_
      case h0 => (intro WX hWX; obtain ⟨y0_0, y0_1, y0_2, y0_3, y0_4, y0_5, y0_6, y0_7, y0_8, y0_9, y0_10, y0_11⟩ := cells12 (HX0.out WX (HB0_5.out.trans ((show Below W5.heap.size W5 WX from hWX).mono HB0_5.out.size))); go_simp)
      go_simp
      refine wpAnyH_take (i := 2) (v := .agg #[.int .i64 i, .int .i64 a, .int .i64 y, .int .i64 d, .int .i64 q, .int .i64 p, .int .i64 f, .int .i64 ph, .int .i64 m, .int .i64 r, .int .i64 v, .bool g]) rfl (by kernel_rfl) (by kernel_rfl) (by kernel_rfl) (fun _ _ _ h => h) (Or.inl ⟨by kernel_rfl, ?h2⟩) HB5_6.out ?_
      case h2 => (intro WX hWX; obtain ⟨y0_0, y0_1, y0_2, y0_3, y0_4, y0_5, y0_6, y0_7, y0_8, y0_9, y0_10, y0_11⟩ := cells12 (HX0.out WX (HB0_5.out.trans ((show Below W5.heap.size W5 WX from hWX).mono HB0_5.out.size))); go_simp)
      go_simp
      refine wpAnyH_ready (rs := [1]) (by kernel_rfl) (by simp) ?_
      refine AllReadyH.cons rfl (fun K hK => ?_) AllReadyH.nil
      go_simp
      go_wp2_with (refine Calls.mono (order.right_is i a y d q p f ph m r v g HF.out HC.out _) ?_; rintro e7 W7 ⟨rfl, hb⟩)
      have HB0_7 : Hid (Below W0.heap.size W0 W7) := Lib.hid (HB0_6.out.trans ((hb : Below W6.heap.size W6 W7).mono HB0_6.out.size))
      have HB1_7 : Hid (Below W1.heap.size W1 W7) := Lib.hid (HB1_6.out.trans ((hb : Below W6.heap.size W6 W7).mono HB1_6.out.size))
      have HB2_7 : Hid (Below W2.heap.size W2 W7) := Lib.hid (HB2_6.out.trans ((hb : Below W6.heap.size W6 W7).mono HB2_6.out.size))
      have HB3_7 : Hid (Below W3.heap.size W3 W7) := Lib.hid (HB3_6.out.trans ((hb : Below W6.heap.size W6 W7).mono HB3_6.out.size))
      have HB4_7 : Hid (Below W4.heap.size W4 W7) := Lib.hid (HB4_6.out.trans ((hb : Below W6.heap.size W6 W7).mono HB4_6.out.size))
      have HB5_7 : Hid (Below W5.heap.size W5 W7) := Lib.hid (HB5_6.out.trans ((hb : Below W6.heap.size W6 W7).mono HB5_6.out.size))
      have HB6_7 : Hid (Below W6.heap.size W6 W7) := Lib.hid (hb)
      clear hb
      refine hK.out _ _ HB5_7.out (fun _ => ?_)
      clear hK K
      go_simp
      refine wpAnyH_ready (rs := [3]) (by kernel_rfl) (by simp) ?_
      refine AllReadyH.cons rfl (fun K hK => ?_) AllReadyH.nil
      go_simp
      go_wp2_with (refine Calls.mono (order.rright_is i a y d q p f ph m r v g HF.out HC.out _) ?_; rintro e8 W8 ⟨rfl, hb⟩)
      have HB0_8 : Hid (Below W0.heap.size W0 W8) := Lib.hid (HB0_7.out.trans ((hb : Below W7.heap.size W7 W8).mono HB0_7.out.size))
      have HB1_8 : Hid (Below W1.heap.size W1 W8) := Lib.hid (HB1_7.out.trans ((hb : Below W7.heap.size W7 W8).mono HB1_7.out.size))
      have HB2_8 : Hid (Below W2.heap.size W2 W8) := Lib.hid (HB2_7.out.trans ((hb : Below W7.heap.size W7 W8).mono HB2_7.out.size))
      have HB3_8 : Hid (Below W3.heap.size W3 W8) := Lib.hid (HB3_7.out.trans ((hb : Below W7.heap.size W7 W8).mono HB3_7.out.size))
      have HB4_8 : Hid (Below W4.heap.size W4 W8) := Lib.hid (HB4_7.out.trans ((hb : Below W7.heap.size W7 W8).mono HB4_7.out.size))
      have HB5_8 : Hid (Below W5.heap.size W5 W8) := Lib.hid (HB5_7.out.trans ((hb : Below W7.heap.size W7 W8).mono HB5_7.out.size))
      have HB6_8 : Hid (Below W6.heap.size W6 W8) := Lib.hid (HB6_7.out.trans ((hb : Below W7.heap.size W7 W8).mono HB6_7.out.size))
      have HB7_8 : Hid (Below W7.heap.size W7 W8) := Lib.hid (hb)
      clear hb
      refine hK.out _ _ HB5_8.out (fun _ => ?_)
      clear hK K
      go_simp
      refine wpAnyH_take (i := 4) (v := .bool false) rfl (by kernel_rfl) (by kernel_rfl) (by kernel_rfl) (fun _ _ _ h => h) (Or.inl ⟨by kernel_rfl, ?h4⟩) HB5_8.out ?_
      case h4 => (intro WX hWX; go_simp)
      go_simp
      refine wpAnyH_take (i := 5) (v := .bool false) rfl (by kernel_rfl) (by kernel_rfl) (by kernel_rfl) (fun _ _ _ h => h) (Or.inl ⟨by kernel_rfl, ?h5⟩) HB5_8.out ?_
      case h5 => (intro WX hWX; go_simp)
      go_simp
      refine wpAnyH_take (i := 6) (v := .agg #[.int .i64 iA, .int .i64 aA, .int .i64 yA, .int .i64 dA, .int .i64 qA, .int .i64 pA, .int .i64 fA, .int .i64 phA, .int .i64 mA, .int .i64 rA, .int .i64 vA, .bool gA]) rfl (by kernel_rfl) (by kernel_rfl) (by kernel_rfl) (fun _ _ _ h => h) (Or.inl ⟨by kernel_rfl, ?h6⟩) HB5_8.out ?_
      case h6 => (intro WX hWX; obtain ⟨y0_0, y0_1, y0_2, y0_3, y0_4, y0_5, y0_6, y0_7, y0_8, y0_9, y0_10, y0_11⟩ := cells12 (HX_x.out WX (HB3_5.out.trans ((show Below W5.heap.size W5 WX from hWX).mono HB3_5.out.size))); go_simp)
      go_simp
      refine wpAnyH_take (i := 7) (v := .agg #[.int .i64 iA, .int .i64 aA, .int .i64 yA, .int .i64 dA, .int .i64 qA, .int .i64 pA, .int .i64 fA, .int .i64 phA, .int .i64 mA, .int .i64 rA, .int .i64 vA, .bool gA]) rfl (by kernel_rfl) (by kernel_rfl) (by kernel_rfl) (fun _ _ _ h => h) (Or.inl ⟨by kernel_rfl, ?h7⟩) HB5_8.out ?_
      case h7 => (intro WX hWX; obtain ⟨y0_0, y0_1, y0_2, y0_3, y0_4, y0_5, y0_6, y0_7, y0_8, y0_9, y0_10, y0_11⟩ := cells12 (HX_z.out WX (show Below W5.heap.size W5 WX from hWX)); go_simp)
      go_simp
      refine wpAnyH_take (i := 8) (v := .bool false) rfl (by kernel_rfl) (by kernel_rfl) (by kernel_rfl) (fun _ _ _ h => h) (Or.inl ⟨by kernel_rfl, ?h8⟩) HB5_8.out ?_
      case h8 => (intro WX hWX; go_simp)
      go_simp
      refine wpAnyH_take (i := 9) (v := .bool false) rfl (by kernel_rfl) (by kernel_rfl) (by kernel_rfl) (fun _ _ _ h => h) (Or.inl ⟨by kernel_rfl, ?h9⟩) HB5_8.out ?_
      case h9 => (intro WX hWX; go_simp)
      go_simp
      refine wpAnyH_take (i := 10) (v := .bool false) rfl (by kernel_rfl) (by kernel_rfl) (by kernel_rfl) (fun _ _ _ h => h) (Or.inl ⟨by kernel_rfl, ?h10⟩) HB5_8.out ?_
      case h10 => (intro WX hWX; go_simp)
      go_simp
      refine wpAnyH_take (i := 11) (v := .int .i64 1) rfl (by kernel_rfl) (by kernel_rfl) (by kernel_rfl) (fun _ _ _ h => h) (Or.inl ⟨by kernel_rfl, ?h11⟩) HB5_8.out ?_
      case h11 => (intro WX hWX; go_simp)
      go_simp
      refine wpAnyH_take (i := 12) (v := .bool false) rfl (by kernel_rfl) (by kernel_rfl) (by kernel_rfl) (fun _ _ _ h => h) (Or.inl ⟨by kernel_rfl, ?h12⟩) HB5_8.out ?_
      case h12 => (intro WX hWX; go_simp)
      go_simp
      refine wpAnyH_take (i := 13) (v := .bool false) rfl (by kernel_rfl) (by kernel_rfl) (by kernel_rfl) (fun _ _ _ h => h) (Or.inl ⟨by kernel_rfl, ?h13⟩) HB5_8.out ?_
      case h13 => (intro WX hWX; go_simp)
      go_simp
      refine wpAnyH_take (i := 14) (v := .bool false) rfl (by kernel_rfl) (by kernel_rfl) (by kernel_rfl) (fun _ _ _ h => h) (Or.inl ⟨by kernel_rfl, ?h14⟩) HB5_8.out ?_
      case h14 => (intro WX hWX; go_simp)
      go_simp
      refine wpAnyH_take (i := 15) (v := .bool false) rfl (by kernel_rfl) (by kernel_rfl) (by kernel_rfl) (fun _ _ _ h => h) (Or.inl ⟨by kernel_rfl, ?h15⟩) HB5_8.out ?_
      case h15 => (intro WX hWX; go_simp)
      go_simp
      refine wpAnyH_take (i := 16) (v := .bool false) rfl (by kernel_rfl) (by kernel_rfl) (by kernel_rfl) (fun _ _ _ h => h) (Or.inl ⟨by kernel_rfl, ?h16⟩) HB5_8.out ?_
      case h16 => (intro WX hWX; go_simp)
      go_simp
      refine wpAnyH_take (i := 17) (v := .bool false) rfl (by kernel_rfl) (by kernel_rfl) (by kernel_rfl) (fun _ _ _ h => h) (Or.inl ⟨by kernel_rfl, ?h17⟩) HB5_8.out ?_
      case h17 => (intro WX hWX; go_simp)
      go_simp
      refine wpAnyH_take (i := 18) (v := .bool true) rfl (by kernel_rfl) (by kernel_rfl) (by kernel_rfl) (fun _ _ _ h => h) (Or.inl ⟨by kernel_rfl, ?h18⟩) HB5_8.out ?_
      case h18 => (intro WX hWX; go_simp)
      go_simp
      refine wpAnyH_take (i := 19) (v := .bool true) rfl (by kernel_rfl) (by kernel_rfl) (by kernel_rfl) (fun _ _ _ h => h) (Or.inl ⟨by kernel_rfl, ?h19⟩) HB5_8.out ?_
      case h19 => (intro WX hWX; go_simp)
      go_simp
      refine wpAnyH_take (i := 20) (v := .int .i64 1) rfl (by kernel_rfl) (by kernel_rfl) (by kernel_rfl) (fun _ _ _ h => h) (Or.inl ⟨by kernel_rfl, ?h20⟩) HB5_8.out ?_
      case h20 => (intro WX hWX; go_simp)
      go_simp
      refine wpAnyH_take (i := 21) (v := .bool false) rfl (by kernel_rfl) (by kernel_rfl) (by kernel_rfl) (fun _ _ _ h => h) (Or.inl ⟨by kernel_rfl, ?h21⟩) HB5_8.out ?_
      case h21 => (intro WX hWX; go_simp)
      go_simp
      refine wpAnyH_take (i := 22) (v := .bool false) rfl (by kernel_rfl) (by kernel_rfl) (by kernel_rfl) (fun _ _ _ h => h) (Or.inl ⟨by kernel_rfl, ?h22⟩) HB5_8.out ?_
      case h22 => (intro WX hWX; go_simp)
      go_simp
      refine wpAnyH_take (i := 23) (v := .bool false) rfl (by kernel_rfl) (by kernel_rfl) (by kernel_rfl) (fun _ _ _ h => h) (Or.inl ⟨by kernel_rfl, ?h23⟩) HB5_8.out ?_
      case h23 => (intro WX hWX; go_simp)
      go_simp
      refine wpAnyH_done (by kernel_rfl) ?_ _
      go_wp2_with fail
      go_meet
      exact ⟨rfl, HB5_8.out⟩
  case rest =>
    obtain ⟨rfl, hgc⟩ := hcut
    obtain ⟨W6, hWc⟩ : ∃ W, W = wc := ⟨_, rfl⟩
    rw [← hWc] at hgc ⊢
    have HB0_6 : Hid (Below W0.heap.size W0 W6) := Lib.hid (HB0_5.out.trans ((hgc : Below W5.heap.size W5 W6).mono HB0_5.out.size))
    have HB1_6 : Hid (Below W1.heap.size W1 W6) := Lib.hid (HB1_5.out.trans ((hgc : Below W5.heap.size W5 W6).mono HB1_5.out.size))
    have HB2_6 : Hid (Below W2.heap.size W2 W6) := Lib.hid (HB2_5.out.trans ((hgc : Below W5.heap.size W5 W6).mono HB2_5.out.size))
    have HB3_6 : Hid (Below W3.heap.size W3 W6) := Lib.hid (HB3_5.out.trans ((hgc : Below W5.heap.size W5 W6).mono HB3_5.out.size))
    have HB4_6 : Hid (Below W4.heap.size W4 W6) := Lib.hid (HB4_5.out.trans ((hgc : Below W5.heap.size W5 W6).mono HB4_5.out.size))
    have HB5_6 : Hid (Below W5.heap.size W5 W6) := Lib.hid (hgc)
    clear hgc hWc wc
    obtain ⟨o_0, o_1, o_2, o_3, o_4, o_5, o_6, o_7, o_8, o_9, o_10, o_11⟩ := cells12 (HX0.out W6 HB0_6.out)
    obtain ⟨n_0, n_1, n_2, n_3, n_4⟩ := cells5 (HX2.out W6 HB0_6.out)
    go_wp2_with fail
    refine Calls.mono (order.take_is i a y d q p f ph m r v g zN tN oN qN pN HF.out HN.out H2.out _) ?_
    rintro e7 W7 ⟨rfl, hb⟩
    have HB0_7 : Hid (Below W0.heap.size W0 W7) := Lib.hid (HB0_6.out.trans ((hb : Below W6.heap.size W6 W7).mono HB0_6.out.size))
    have HB1_7 : Hid (Below W1.heap.size W1 W7) := Lib.hid (HB1_6.out.trans ((hb : Below W6.heap.size W6 W7).mono HB1_6.out.size))
    have HB2_7 : Hid (Below W2.heap.size W2 W7) := Lib.hid (HB2_6.out.trans ((hb : Below W6.heap.size W6 W7).mono HB2_6.out.size))
    have HB3_7 : Hid (Below W3.heap.size W3 W7) := Lib.hid (HB3_6.out.trans ((hb : Below W6.heap.size W6 W7).mono HB3_6.out.size))
    have HB4_7 : Hid (Below W4.heap.size W4 W7) := Lib.hid (HB4_6.out.trans ((hb : Below W6.heap.size W6 W7).mono HB4_6.out.size))
    have HB5_7 : Hid (Below W5.heap.size W5 W7) := Lib.hid (HB5_6.out.trans ((hb : Below W6.heap.size W6 W7).mono HB5_6.out.size))
    have HB6_7 : Hid (Below W6.heap.size W6 W7) := Lib.hid (hb)
    clear hb
    clear o_0 o_1 o_2 o_3 o_4 o_5 o_6 o_7 o_8 o_9 o_10 o_11 n_0 n_1 n_2 n_3 n_4
    have hwh : World.whole W7 (W2.heap.size) 12 23 := whole_of (HX_x.out W7 HB3_7.out) rfl
    go_wp2_with (refine wpList_store_whole 23 (.tmp 11) (.tmp 58) (W2.heap.size) 12 _ 23 (by rfl) (by rfl) hwh (by rfl) (by kernel_rfl) (by kernel_rfl) ?_; obtain ⟨W8, HW8⟩ : ∃ W, Hid (World.setAll W7 (W2.heap.size) #[.int .i64 iB, .int .i64 aB, .int .i64 yB, .int .i64 dB, .int .i64 qB, .int .i64 pB, .int .i64 fB, .int .i64 phB, .int .i64 mB, .int .i64 rB, .int .i64 vB, .bool gB] = W) := ⟨_, Lib.hid rfl⟩; rw [HW8.out]; have HB0_8 : Hid (Below W0.heap.size W0 W8) := Lib.hid (by rw [← HW8.out]; exact setAll_below HB0_7.out LE_x.out); have HX8_o : Hid (∀ W, Below W8.heap.size W8 W → W.heap[w.heap.size]? = some (.cells #[.int .i64 i, .int .i64 a, .int .i64 y, .int .i64 d, .int .i64 q, .int .i64 p, .int .i64 f, .int .i64 ph, .int .i64 m, .int .i64 r, .int .i64 v, .bool g] 23 (0, 0))) := Lib.hid (fun W hb => (hb.block _ (by rw [← HW8.out, setAll_size]; exact (Array.getElem?_eq_some_iff.1 (HX0.out W7 HB0_7.out)).1)).trans (by rw [← HW8.out]; exact (setAll_other NE_x_o.out).trans (HX0.out W7 HB0_7.out))); have HX8_r : Hid (∀ W, Below W8.heap.size W8 W → W.heap[w.heap.size + 1]? = some (.cells #[.int .i64 kR, .int .i64 oR, .int .i64 aR, .int .i64 yR, .int .i64 dR, .int .i64 qR, .int .i64 pR, .int .i64 lR, .int .i64 sR, .int .i64 nR, .bool onR, .int .i64 zR, .int .i64 tR] 25 (0, 0))) := Lib.hid (fun W hb => (hb.block _ (by rw [← HW8.out, setAll_size]; exact (Array.getElem?_eq_some_iff.1 (HX1.out W7 HB0_7.out)).1)).trans (by rw [← HW8.out]; exact (setAll_other NE_x_r.out).trans (HX1.out W7 HB0_7.out))); have HX8_n : Hid (∀ W, Below W8.heap.size W8 W → W.heap[w.heap.size + 1 + 1]? = some (.cells #[.int .i64 zN, .int .i64 tN, .int .i64 oN, .int .i64 qN, .int .i64 pN] 27 (0, 0))) := Lib.hid (fun W hb => (hb.block _ (by rw [← HW8.out, setAll_size]; exact (Array.getElem?_eq_some_iff.1 (HX2.out W7 HB0_7.out)).1)).trans (by rw [← HW8.out]; exact (setAll_other NE_x_n.out).trans (HX2.out W7 HB0_7.out))); have HX8_x : Hid (∀ W, Below W8.heap.size W8 W → W.heap[W2.heap.size]? = some (.cells #[.int .i64 iB, .int .i64 aB, .int .i64 yB, .int .i64 dB, .int .i64 qB, .int .i64 pB, .int .i64 fB, .int .i64 phB, .int .i64 mB, .int .i64 rB, .int .i64 vB, .bool gB] 23 (0, 0))) := Lib.hid (fun W hb => (hb.block _ (by rw [← HW8.out, setAll_size]; exact (Array.getElem?_eq_some_iff.1 (HX_x.out W7 HB3_7.out)).1)).trans (by rw [← HW8.out]; exact setAll_self hwh rfl)); have HX8_z : Hid (∀ W, Below W8.heap.size W8 W → W.heap[W4.heap.size]? = some (.cells #[.int .i64 iA, .int .i64 aA, .int .i64 yA, .int .i64 dA, .int .i64 qA, .int .i64 pA, .int .i64 fA, .int .i64 phA, .int .i64 mA, .int .i64 rA, .int .i64 vA, .bool gA] 23 (0, 0))) := Lib.hid (fun W hb => (hb.block _ (by rw [← HW8.out, setAll_size]; exact (Array.getElem?_eq_some_iff.1 (HX_z.out W7 HB5_7.out)).1)).trans (by rw [← HW8.out]; exact (setAll_other (Ne.symm NE_z_x.out)).trans (HX_z.out W7 HB5_7.out))); obtain ⟨o_0, o_1, o_2, o_3, o_4, o_5, o_6, o_7, o_8, o_9, o_10, o_11⟩ := cells12 (HX8_o.out W8 (Below.refl _ _)); obtain ⟨n_0, n_1, n_2, n_3, n_4⟩ := cells5 (HX8_n.out W8 (Below.refl _ _)))
    refine Calls.mono (order.rtake_is i a y d q p f ph m r v g zN tN oN qN pN HF.out HN.out H2.out _) ?_
    rintro e9 W9 ⟨rfl, hb⟩
    have HB0_9 : Hid (Below W0.heap.size W0 W9) := Lib.hid (HB0_8.out.trans ((hb : Below W8.heap.size W8 W9).mono HB0_8.out.size))
    have HB8_9 : Hid (Below W8.heap.size W8 W9) := Lib.hid (hb)
    clear hb
    clear o_0 o_1 o_2 o_3 o_4 o_5 o_6 o_7 o_8 o_9 o_10 o_11 n_0 n_1 n_2 n_3 n_4
    have hwh : World.whole W9 (W4.heap.size) 12 23 := whole_of (HX8_z.out W9 HB8_9.out) rfl
    go_wp2_with (refine wpList_store_whole 23 (.tmp 13) (.tmp 64) (W4.heap.size) 12 _ 23 (by rfl) (by rfl) hwh (by rfl) (by kernel_rfl) (by kernel_rfl) ?_; obtain ⟨W10, HW10⟩ : ∃ W, Hid (World.setAll W9 (W4.heap.size) #[.int .i64 iB, .int .i64 aB, .int .i64 yB, .int .i64 dB, .int .i64 qB, .int .i64 pB, .int .i64 fB, .int .i64 phB, .int .i64 mB, .int .i64 rB, .int .i64 vB, .bool gB] = W) := ⟨_, Lib.hid rfl⟩; rw [HW10.out]; have HB0_10 : Hid (Below W0.heap.size W0 W10) := Lib.hid (by rw [← HW10.out]; exact setAll_below HB0_9.out LE_z.out); have HX10_o : Hid (∀ W, Below W10.heap.size W10 W → W.heap[w.heap.size]? = some (.cells #[.int .i64 i, .int .i64 a, .int .i64 y, .int .i64 d, .int .i64 q, .int .i64 p, .int .i64 f, .int .i64 ph, .int .i64 m, .int .i64 r, .int .i64 v, .bool g] 23 (0, 0))) := Lib.hid (fun W hb => (hb.block _ (by rw [← HW10.out, setAll_size]; exact (Array.getElem?_eq_some_iff.1 (HX8_o.out W9 HB8_9.out)).1)).trans (by rw [← HW10.out]; exact (setAll_other NE_z_o.out).trans (HX8_o.out W9 HB8_9.out))); have HX10_r : Hid (∀ W, Below W10.heap.size W10 W → W.heap[w.heap.size + 1]? = some (.cells #[.int .i64 kR, .int .i64 oR, .int .i64 aR, .int .i64 yR, .int .i64 dR, .int .i64 qR, .int .i64 pR, .int .i64 lR, .int .i64 sR, .int .i64 nR, .bool onR, .int .i64 zR, .int .i64 tR] 25 (0, 0))) := Lib.hid (fun W hb => (hb.block _ (by rw [← HW10.out, setAll_size]; exact (Array.getElem?_eq_some_iff.1 (HX8_r.out W9 HB8_9.out)).1)).trans (by rw [← HW10.out]; exact (setAll_other NE_z_r.out).trans (HX8_r.out W9 HB8_9.out))); have HX10_n : Hid (∀ W, Below W10.heap.size W10 W → W.heap[w.heap.size + 1 + 1]? = some (.cells #[.int .i64 zN, .int .i64 tN, .int .i64 oN, .int .i64 qN, .int .i64 pN] 27 (0, 0))) := Lib.hid (fun W hb => (hb.block _ (by rw [← HW10.out, setAll_size]; exact (Array.getElem?_eq_some_iff.1 (HX8_n.out W9 HB8_9.out)).1)).trans (by rw [← HW10.out]; exact (setAll_other NE_z_n.out).trans (HX8_n.out W9 HB8_9.out))); have HX10_x : Hid (∀ W, Below W10.heap.size W10 W → W.heap[W2.heap.size]? = some (.cells #[.int .i64 iB, .int .i64 aB, .int .i64 yB, .int .i64 dB, .int .i64 qB, .int .i64 pB, .int .i64 fB, .int .i64 phB, .int .i64 mB, .int .i64 rB, .int .i64 vB, .bool gB] 23 (0, 0))) := Lib.hid (fun W hb => (hb.block _ (by rw [← HW10.out, setAll_size]; exact (Array.getElem?_eq_some_iff.1 (HX8_x.out W9 HB8_9.out)).1)).trans (by rw [← HW10.out]; exact (setAll_other NE_z_x.out).trans (HX8_x.out W9 HB8_9.out))); have HX10_z : Hid (∀ W, Below W10.heap.size W10 W → W.heap[W4.heap.size]? = some (.cells #[.int .i64 iB, .int .i64 aB, .int .i64 yB, .int .i64 dB, .int .i64 qB, .int .i64 pB, .int .i64 fB, .int .i64 phB, .int .i64 mB, .int .i64 rB, .int .i64 vB, .bool gB] 23 (0, 0))) := Lib.hid (fun W hb => (hb.block _ (by rw [← HW10.out, setAll_size]; exact (Array.getElem?_eq_some_iff.1 (HX8_z.out W9 HB8_9.out)).1)).trans (by rw [← HW10.out]; exact setAll_self hwh rfl)); obtain ⟨o_0, o_1, o_2, o_3, o_4, o_5, o_6, o_7, o_8, o_9, o_10, o_11⟩ := cells12 (HX10_o.out W10 (Below.refl _ _)); obtain ⟨n_0, n_1, n_2, n_3, n_4⟩ := cells5 (HX10_n.out W10 (Below.refl _ _)); obtain ⟨x_0, x_1, x_2, x_3, x_4, x_5, x_6, x_7, x_8, x_9, x_10, x_11⟩ := cells12 (HX10_x.out W10 (Below.refl _ _)); obtain ⟨z_0, z_1, z_2, z_3, z_4, z_5, z_6, z_7, z_8, z_9, z_10, z_11⟩ := cells12 (HX10_z.out W10 (Below.refl _ _)))
    refine Calls.mono (order.change_is i a y d q p f ph m r v g a3 a4 HF.out HI.out H3.out _) ?_
    rintro e11 W11 ⟨rfl, hb⟩
    have HB0_11 : Hid (Below W0.heap.size W0 W11) := Lib.hid (HB0_10.out.trans ((hb : Below W10.heap.size W10 W11).mono HB0_10.out.size))
    have HB10_11 : Hid (Below W10.heap.size W10 W11) := Lib.hid (hb)
    clear hb
    clear o_0 o_1 o_2 o_3 o_4 o_5 o_6 o_7 o_8 o_9 o_10 o_11 n_0 n_1 n_2 n_3 n_4 x_0 x_1 x_2 x_3 x_4 x_5 x_6 x_7 x_8 x_9 x_10 x_11 z_0 z_1 z_2 z_3 z_4 z_5 z_6 z_7 z_8 z_9 z_10 z_11
    have hwh : World.whole W11 (W2.heap.size) 12 23 := whole_of (HX10_x.out W11 HB10_11.out) rfl
    go_wp2_with (refine wpList_store_whole 23 (.tmp 11) (.tmp 79) (W2.heap.size) 12 _ 23 (by rfl) (by rfl) hwh (by rfl) (by kernel_rfl) (by kernel_rfl) ?_; obtain ⟨W12, HW12⟩ : ∃ W, Hid (World.setAll W11 (W2.heap.size) #[.int .i64 iC, .int .i64 aC, .int .i64 yC, .int .i64 dC, .int .i64 qC, .int .i64 pC, .int .i64 fC, .int .i64 phC, .int .i64 mC, .int .i64 rC, .int .i64 vC, .bool gC] = W) := ⟨_, Lib.hid rfl⟩; rw [HW12.out]; have HB0_12 : Hid (Below W0.heap.size W0 W12) := Lib.hid (by rw [← HW12.out]; exact setAll_below HB0_11.out LE_x.out); have HX12_o : Hid (∀ W, Below W12.heap.size W12 W → W.heap[w.heap.size]? = some (.cells #[.int .i64 i, .int .i64 a, .int .i64 y, .int .i64 d, .int .i64 q, .int .i64 p, .int .i64 f, .int .i64 ph, .int .i64 m, .int .i64 r, .int .i64 v, .bool g] 23 (0, 0))) := Lib.hid (fun W hb => (hb.block _ (by rw [← HW12.out, setAll_size]; exact (Array.getElem?_eq_some_iff.1 (HX10_o.out W11 HB10_11.out)).1)).trans (by rw [← HW12.out]; exact (setAll_other NE_x_o.out).trans (HX10_o.out W11 HB10_11.out))); have HX12_r : Hid (∀ W, Below W12.heap.size W12 W → W.heap[w.heap.size + 1]? = some (.cells #[.int .i64 kR, .int .i64 oR, .int .i64 aR, .int .i64 yR, .int .i64 dR, .int .i64 qR, .int .i64 pR, .int .i64 lR, .int .i64 sR, .int .i64 nR, .bool onR, .int .i64 zR, .int .i64 tR] 25 (0, 0))) := Lib.hid (fun W hb => (hb.block _ (by rw [← HW12.out, setAll_size]; exact (Array.getElem?_eq_some_iff.1 (HX10_r.out W11 HB10_11.out)).1)).trans (by rw [← HW12.out]; exact (setAll_other NE_x_r.out).trans (HX10_r.out W11 HB10_11.out))); have HX12_n : Hid (∀ W, Below W12.heap.size W12 W → W.heap[w.heap.size + 1 + 1]? = some (.cells #[.int .i64 zN, .int .i64 tN, .int .i64 oN, .int .i64 qN, .int .i64 pN] 27 (0, 0))) := Lib.hid (fun W hb => (hb.block _ (by rw [← HW12.out, setAll_size]; exact (Array.getElem?_eq_some_iff.1 (HX10_n.out W11 HB10_11.out)).1)).trans (by rw [← HW12.out]; exact (setAll_other NE_x_n.out).trans (HX10_n.out W11 HB10_11.out))); have HX12_x : Hid (∀ W, Below W12.heap.size W12 W → W.heap[W2.heap.size]? = some (.cells #[.int .i64 iC, .int .i64 aC, .int .i64 yC, .int .i64 dC, .int .i64 qC, .int .i64 pC, .int .i64 fC, .int .i64 phC, .int .i64 mC, .int .i64 rC, .int .i64 vC, .bool gC] 23 (0, 0))) := Lib.hid (fun W hb => (hb.block _ (by rw [← HW12.out, setAll_size]; exact (Array.getElem?_eq_some_iff.1 (HX10_x.out W11 HB10_11.out)).1)).trans (by rw [← HW12.out]; exact setAll_self hwh rfl)); have HX12_z : Hid (∀ W, Below W12.heap.size W12 W → W.heap[W4.heap.size]? = some (.cells #[.int .i64 iB, .int .i64 aB, .int .i64 yB, .int .i64 dB, .int .i64 qB, .int .i64 pB, .int .i64 fB, .int .i64 phB, .int .i64 mB, .int .i64 rB, .int .i64 vB, .bool gB] 23 (0, 0))) := Lib.hid (fun W hb => (hb.block _ (by rw [← HW12.out, setAll_size]; exact (Array.getElem?_eq_some_iff.1 (HX10_z.out W11 HB10_11.out)).1)).trans (by rw [← HW12.out]; exact (setAll_other (Ne.symm NE_z_x.out)).trans (HX10_z.out W11 HB10_11.out))); obtain ⟨o_0, o_1, o_2, o_3, o_4, o_5, o_6, o_7, o_8, o_9, o_10, o_11⟩ := cells12 (HX12_o.out W12 (Below.refl _ _)); obtain ⟨n_0, n_1, n_2, n_3, n_4⟩ := cells5 (HX12_n.out W12 (Below.refl _ _)))
    refine Calls.mono (order.rchange_is i a y d q p f ph m r v g a3 a4 HF.out H3.out _) ?_
    rintro e13 W13 ⟨rfl, hb⟩
    have HB0_13 : Hid (Below W0.heap.size W0 W13) := Lib.hid (HB0_12.out.trans ((hb : Below W12.heap.size W12 W13).mono HB0_12.out.size))
    have HB12_13 : Hid (Below W12.heap.size W12 W13) := Lib.hid (hb)
    clear hb
    clear o_0 o_1 o_2 o_3 o_4 o_5 o_6 o_7 o_8 o_9 o_10 o_11 n_0 n_1 n_2 n_3 n_4
    have hwh : World.whole W13 (W4.heap.size) 12 23 := whole_of (HX12_z.out W13 HB12_13.out) rfl
    go_wp2_with (refine wpList_store_whole 23 (.tmp 13) (.tmp 86) (W4.heap.size) 12 _ 23 (by rfl) (by rfl) hwh (by rfl) (by kernel_rfl) (by kernel_rfl) ?_; obtain ⟨W14, HW14⟩ : ∃ W, Hid (World.setAll W13 (W4.heap.size) #[.int .i64 iC, .int .i64 aC, .int .i64 yC, .int .i64 dC, .int .i64 qC, .int .i64 pC, .int .i64 fC, .int .i64 phC, .int .i64 mC, .int .i64 rC, .int .i64 vC, .bool gC] = W) := ⟨_, Lib.hid rfl⟩; rw [HW14.out]; have HB0_14 : Hid (Below W0.heap.size W0 W14) := Lib.hid (by rw [← HW14.out]; exact setAll_below HB0_13.out LE_z.out); have HX14_o : Hid (∀ W, Below W14.heap.size W14 W → W.heap[w.heap.size]? = some (.cells #[.int .i64 i, .int .i64 a, .int .i64 y, .int .i64 d, .int .i64 q, .int .i64 p, .int .i64 f, .int .i64 ph, .int .i64 m, .int .i64 r, .int .i64 v, .bool g] 23 (0, 0))) := Lib.hid (fun W hb => (hb.block _ (by rw [← HW14.out, setAll_size]; exact (Array.getElem?_eq_some_iff.1 (HX12_o.out W13 HB12_13.out)).1)).trans (by rw [← HW14.out]; exact (setAll_other NE_z_o.out).trans (HX12_o.out W13 HB12_13.out))); have HX14_r : Hid (∀ W, Below W14.heap.size W14 W → W.heap[w.heap.size + 1]? = some (.cells #[.int .i64 kR, .int .i64 oR, .int .i64 aR, .int .i64 yR, .int .i64 dR, .int .i64 qR, .int .i64 pR, .int .i64 lR, .int .i64 sR, .int .i64 nR, .bool onR, .int .i64 zR, .int .i64 tR] 25 (0, 0))) := Lib.hid (fun W hb => (hb.block _ (by rw [← HW14.out, setAll_size]; exact (Array.getElem?_eq_some_iff.1 (HX12_r.out W13 HB12_13.out)).1)).trans (by rw [← HW14.out]; exact (setAll_other NE_z_r.out).trans (HX12_r.out W13 HB12_13.out))); have HX14_n : Hid (∀ W, Below W14.heap.size W14 W → W.heap[w.heap.size + 1 + 1]? = some (.cells #[.int .i64 zN, .int .i64 tN, .int .i64 oN, .int .i64 qN, .int .i64 pN] 27 (0, 0))) := Lib.hid (fun W hb => (hb.block _ (by rw [← HW14.out, setAll_size]; exact (Array.getElem?_eq_some_iff.1 (HX12_n.out W13 HB12_13.out)).1)).trans (by rw [← HW14.out]; exact (setAll_other NE_z_n.out).trans (HX12_n.out W13 HB12_13.out))); have HX14_x : Hid (∀ W, Below W14.heap.size W14 W → W.heap[W2.heap.size]? = some (.cells #[.int .i64 iC, .int .i64 aC, .int .i64 yC, .int .i64 dC, .int .i64 qC, .int .i64 pC, .int .i64 fC, .int .i64 phC, .int .i64 mC, .int .i64 rC, .int .i64 vC, .bool gC] 23 (0, 0))) := Lib.hid (fun W hb => (hb.block _ (by rw [← HW14.out, setAll_size]; exact (Array.getElem?_eq_some_iff.1 (HX12_x.out W13 HB12_13.out)).1)).trans (by rw [← HW14.out]; exact (setAll_other NE_z_x.out).trans (HX12_x.out W13 HB12_13.out))); have HX14_z : Hid (∀ W, Below W14.heap.size W14 W → W.heap[W4.heap.size]? = some (.cells #[.int .i64 iC, .int .i64 aC, .int .i64 yC, .int .i64 dC, .int .i64 qC, .int .i64 pC, .int .i64 fC, .int .i64 phC, .int .i64 mC, .int .i64 rC, .int .i64 vC, .bool gC] 23 (0, 0))) := Lib.hid (fun W hb => (hb.block _ (by rw [← HW14.out, setAll_size]; exact (Array.getElem?_eq_some_iff.1 (HX12_z.out W13 HB12_13.out)).1)).trans (by rw [← HW14.out]; exact setAll_self hwh rfl)); obtain ⟨o_0, o_1, o_2, o_3, o_4, o_5, o_6, o_7, o_8, o_9, o_10, o_11⟩ := cells12 (HX14_o.out W14 (Below.refl _ _)); obtain ⟨n_0, n_1, n_2, n_3, n_4⟩ := cells5 (HX14_n.out W14 (Below.refl _ _)); obtain ⟨x_0, x_1, x_2, x_3, x_4, x_5, x_6, x_7, x_8, x_9, x_10, x_11⟩ := cells12 (HX14_x.out W14 (Below.refl _ _)); obtain ⟨z_0, z_1, z_2, z_3, z_4, z_5, z_6, z_7, z_8, z_9, z_10, z_11⟩ := cells12 (HX14_z.out W14 (Below.refl _ _)))
    refine Calls.mono (order.stop_is i a y d q p f ph m r v g HF.out H4.out _) ?_
    rintro e15 W15 ⟨rfl, hb⟩
    have HB0_15 : Hid (Below W0.heap.size W0 W15) := Lib.hid (HB0_14.out.trans ((hb : Below W14.heap.size W14 W15).mono HB0_14.out.size))
    have HB14_15 : Hid (Below W14.heap.size W14 W15) := Lib.hid (hb)
    clear hb
    clear o_0 o_1 o_2 o_3 o_4 o_5 o_6 o_7 o_8 o_9 o_10 o_11 n_0 n_1 n_2 n_3 n_4 x_0 x_1 x_2 x_3 x_4 x_5 x_6 x_7 x_8 x_9 x_10 x_11 z_0 z_1 z_2 z_3 z_4 z_5 z_6 z_7 z_8 z_9 z_10 z_11
    have hwh : World.whole W15 (W2.heap.size) 12 23 := whole_of (HX14_x.out W15 HB14_15.out) rfl
    go_wp2_with (refine wpList_store_whole 23 (.tmp 11) (.tmp 99) (W2.heap.size) 12 _ 23 (by rfl) (by rfl) hwh (by rfl) (by kernel_rfl) (by kernel_rfl) ?_; obtain ⟨W16, HW16⟩ : ∃ W, Hid (World.setAll W15 (W2.heap.size) #[.int .i64 iD, .int .i64 aD, .int .i64 yD, .int .i64 dD, .int .i64 qD, .int .i64 pD, .int .i64 fD, .int .i64 phD, .int .i64 mD, .int .i64 rD, .int .i64 vD, .bool gD] = W) := ⟨_, Lib.hid rfl⟩; rw [HW16.out]; have HB0_16 : Hid (Below W0.heap.size W0 W16) := Lib.hid (by rw [← HW16.out]; exact setAll_below HB0_15.out LE_x.out); have HX16_o : Hid (∀ W, Below W16.heap.size W16 W → W.heap[w.heap.size]? = some (.cells #[.int .i64 i, .int .i64 a, .int .i64 y, .int .i64 d, .int .i64 q, .int .i64 p, .int .i64 f, .int .i64 ph, .int .i64 m, .int .i64 r, .int .i64 v, .bool g] 23 (0, 0))) := Lib.hid (fun W hb => (hb.block _ (by rw [← HW16.out, setAll_size]; exact (Array.getElem?_eq_some_iff.1 (HX14_o.out W15 HB14_15.out)).1)).trans (by rw [← HW16.out]; exact (setAll_other NE_x_o.out).trans (HX14_o.out W15 HB14_15.out))); have HX16_r : Hid (∀ W, Below W16.heap.size W16 W → W.heap[w.heap.size + 1]? = some (.cells #[.int .i64 kR, .int .i64 oR, .int .i64 aR, .int .i64 yR, .int .i64 dR, .int .i64 qR, .int .i64 pR, .int .i64 lR, .int .i64 sR, .int .i64 nR, .bool onR, .int .i64 zR, .int .i64 tR] 25 (0, 0))) := Lib.hid (fun W hb => (hb.block _ (by rw [← HW16.out, setAll_size]; exact (Array.getElem?_eq_some_iff.1 (HX14_r.out W15 HB14_15.out)).1)).trans (by rw [← HW16.out]; exact (setAll_other NE_x_r.out).trans (HX14_r.out W15 HB14_15.out))); have HX16_n : Hid (∀ W, Below W16.heap.size W16 W → W.heap[w.heap.size + 1 + 1]? = some (.cells #[.int .i64 zN, .int .i64 tN, .int .i64 oN, .int .i64 qN, .int .i64 pN] 27 (0, 0))) := Lib.hid (fun W hb => (hb.block _ (by rw [← HW16.out, setAll_size]; exact (Array.getElem?_eq_some_iff.1 (HX14_n.out W15 HB14_15.out)).1)).trans (by rw [← HW16.out]; exact (setAll_other NE_x_n.out).trans (HX14_n.out W15 HB14_15.out))); have HX16_x : Hid (∀ W, Below W16.heap.size W16 W → W.heap[W2.heap.size]? = some (.cells #[.int .i64 iD, .int .i64 aD, .int .i64 yD, .int .i64 dD, .int .i64 qD, .int .i64 pD, .int .i64 fD, .int .i64 phD, .int .i64 mD, .int .i64 rD, .int .i64 vD, .bool gD] 23 (0, 0))) := Lib.hid (fun W hb => (hb.block _ (by rw [← HW16.out, setAll_size]; exact (Array.getElem?_eq_some_iff.1 (HX14_x.out W15 HB14_15.out)).1)).trans (by rw [← HW16.out]; exact setAll_self hwh rfl)); have HX16_z : Hid (∀ W, Below W16.heap.size W16 W → W.heap[W4.heap.size]? = some (.cells #[.int .i64 iC, .int .i64 aC, .int .i64 yC, .int .i64 dC, .int .i64 qC, .int .i64 pC, .int .i64 fC, .int .i64 phC, .int .i64 mC, .int .i64 rC, .int .i64 vC, .bool gC] 23 (0, 0))) := Lib.hid (fun W hb => (hb.block _ (by rw [← HW16.out, setAll_size]; exact (Array.getElem?_eq_some_iff.1 (HX14_z.out W15 HB14_15.out)).1)).trans (by rw [← HW16.out]; exact (setAll_other (Ne.symm NE_z_x.out)).trans (HX14_z.out W15 HB14_15.out))); obtain ⟨o_0, o_1, o_2, o_3, o_4, o_5, o_6, o_7, o_8, o_9, o_10, o_11⟩ := cells12 (HX16_o.out W16 (Below.refl _ _)); obtain ⟨n_0, n_1, n_2, n_3, n_4⟩ := cells5 (HX16_n.out W16 (Below.refl _ _)))
    refine Calls.mono (order.rstop_is i a y d q p f ph m r v g HF.out H4.out _) ?_
    rintro e17 W17 ⟨rfl, hb⟩
    have HB0_17 : Hid (Below W0.heap.size W0 W17) := Lib.hid (HB0_16.out.trans ((hb : Below W16.heap.size W16 W17).mono HB0_16.out.size))
    have HB16_17 : Hid (Below W16.heap.size W16 W17) := Lib.hid (hb)
    clear hb
    clear o_0 o_1 o_2 o_3 o_4 o_5 o_6 o_7 o_8 o_9 o_10 o_11 n_0 n_1 n_2 n_3 n_4
    have hwh : World.whole W17 (W4.heap.size) 12 23 := whole_of (HX16_z.out W17 HB16_17.out) rfl
    go_wp2_with (refine wpList_store_whole 23 (.tmp 13) (.tmp 104) (W4.heap.size) 12 _ 23 (by rfl) (by rfl) hwh (by rfl) (by kernel_rfl) (by kernel_rfl) ?_; obtain ⟨W18, HW18⟩ : ∃ W, Hid (World.setAll W17 (W4.heap.size) #[.int .i64 iD, .int .i64 aD, .int .i64 yD, .int .i64 dD, .int .i64 qD, .int .i64 pD, .int .i64 fD, .int .i64 phD, .int .i64 mD, .int .i64 rD, .int .i64 vD, .bool gD] = W) := ⟨_, Lib.hid rfl⟩; rw [HW18.out]; have HB0_18 : Hid (Below W0.heap.size W0 W18) := Lib.hid (by rw [← HW18.out]; exact setAll_below HB0_17.out LE_z.out); have HX18_o : Hid (∀ W, Below W18.heap.size W18 W → W.heap[w.heap.size]? = some (.cells #[.int .i64 i, .int .i64 a, .int .i64 y, .int .i64 d, .int .i64 q, .int .i64 p, .int .i64 f, .int .i64 ph, .int .i64 m, .int .i64 r, .int .i64 v, .bool g] 23 (0, 0))) := Lib.hid (fun W hb => (hb.block _ (by rw [← HW18.out, setAll_size]; exact (Array.getElem?_eq_some_iff.1 (HX16_o.out W17 HB16_17.out)).1)).trans (by rw [← HW18.out]; exact (setAll_other NE_z_o.out).trans (HX16_o.out W17 HB16_17.out))); have HX18_r : Hid (∀ W, Below W18.heap.size W18 W → W.heap[w.heap.size + 1]? = some (.cells #[.int .i64 kR, .int .i64 oR, .int .i64 aR, .int .i64 yR, .int .i64 dR, .int .i64 qR, .int .i64 pR, .int .i64 lR, .int .i64 sR, .int .i64 nR, .bool onR, .int .i64 zR, .int .i64 tR] 25 (0, 0))) := Lib.hid (fun W hb => (hb.block _ (by rw [← HW18.out, setAll_size]; exact (Array.getElem?_eq_some_iff.1 (HX16_r.out W17 HB16_17.out)).1)).trans (by rw [← HW18.out]; exact (setAll_other NE_z_r.out).trans (HX16_r.out W17 HB16_17.out))); have HX18_n : Hid (∀ W, Below W18.heap.size W18 W → W.heap[w.heap.size + 1 + 1]? = some (.cells #[.int .i64 zN, .int .i64 tN, .int .i64 oN, .int .i64 qN, .int .i64 pN] 27 (0, 0))) := Lib.hid (fun W hb => (hb.block _ (by rw [← HW18.out, setAll_size]; exact (Array.getElem?_eq_some_iff.1 (HX16_n.out W17 HB16_17.out)).1)).trans (by rw [← HW18.out]; exact (setAll_other NE_z_n.out).trans (HX16_n.out W17 HB16_17.out))); have HX18_x : Hid (∀ W, Below W18.heap.size W18 W → W.heap[W2.heap.size]? = some (.cells #[.int .i64 iD, .int .i64 aD, .int .i64 yD, .int .i64 dD, .int .i64 qD, .int .i64 pD, .int .i64 fD, .int .i64 phD, .int .i64 mD, .int .i64 rD, .int .i64 vD, .bool gD] 23 (0, 0))) := Lib.hid (fun W hb => (hb.block _ (by rw [← HW18.out, setAll_size]; exact (Array.getElem?_eq_some_iff.1 (HX16_x.out W17 HB16_17.out)).1)).trans (by rw [← HW18.out]; exact (setAll_other NE_z_x.out).trans (HX16_x.out W17 HB16_17.out))); have HX18_z : Hid (∀ W, Below W18.heap.size W18 W → W.heap[W4.heap.size]? = some (.cells #[.int .i64 iD, .int .i64 aD, .int .i64 yD, .int .i64 dD, .int .i64 qD, .int .i64 pD, .int .i64 fD, .int .i64 phD, .int .i64 mD, .int .i64 rD, .int .i64 vD, .bool gD] 23 (0, 0))) := Lib.hid (fun W hb => (hb.block _ (by rw [← HW18.out, setAll_size]; exact (Array.getElem?_eq_some_iff.1 (HX16_z.out W17 HB16_17.out)).1)).trans (by rw [← HW18.out]; exact setAll_self hwh rfl)); obtain ⟨o_0, o_1, o_2, o_3, o_4, o_5, o_6, o_7, o_8, o_9, o_10, o_11⟩ := cells12 (HX18_o.out W18 (Below.refl _ _)); obtain ⟨n_0, n_1, n_2, n_3, n_4⟩ := cells5 (HX18_n.out W18 (Below.refl _ _)); obtain ⟨x_0, x_1, x_2, x_3, x_4, x_5, x_6, x_7, x_8, x_9, x_10, x_11⟩ := cells12 (HX18_x.out W18 (Below.refl _ _)); obtain ⟨z_0, z_1, z_2, z_3, z_4, z_5, z_6, z_7, z_8, z_9, z_10, z_11⟩ := cells12 (HX18_z.out W18 (Below.refl _ _)))
    refine Calls.mono (order.worth_is i a y d q p f ph m r v g HF.out H5.out _) ?_
    rintro e19 W19 ⟨rfl, hb⟩
    have HB0_19 : Hid (Below W0.heap.size W0 W19) := Lib.hid (HB0_18.out.trans ((hb : Below W18.heap.size W18 W19).mono HB0_18.out.size))
    have HB18_19 : Hid (Below W18.heap.size W18 W19) := Lib.hid (hb)
    clear hb
    clear o_0 o_1 o_2 o_3 o_4 o_5 o_6 o_7 o_8 o_9 o_10 o_11 n_0 n_1 n_2 n_3 n_4 x_0 x_1 x_2 x_3 x_4 x_5 x_6 x_7 x_8 x_9 x_10 x_11 z_0 z_1 z_2 z_3 z_4 z_5 z_6 z_7 z_8 z_9 z_10 z_11
    obtain ⟨o_0, o_1, o_2, o_3, o_4, o_5, o_6, o_7, o_8, o_9, o_10, o_11⟩ := cells12 (HX18_o.out W19 HB18_19.out)
    go_wp2_with fail
    refine Calls.mono (order.rworth_is i a y d q p f ph m r v g HF.out H5.out _) ?_
    rintro e20 W20 ⟨rfl, hb⟩
    have HB0_20 : Hid (Below W0.heap.size W0 W20) := Lib.hid (HB0_19.out.trans ((hb : Below W19.heap.size W19 W20).mono HB0_19.out.size))
    have HB18_20 : Hid (Below W18.heap.size W18 W20) := Lib.hid (HB18_19.out.trans ((hb : Below W19.heap.size W19 W20).mono HB18_19.out.size))
    have HB19_20 : Hid (Below W19.heap.size W19 W20) := Lib.hid (hb)
    clear hb
    clear o_0 o_1 o_2 o_3 o_4 o_5 o_6 o_7 o_8 o_9 o_10 o_11
    go_upto_region 21 with fail
    refine wp_region_held_drew (S := fun W => Below W20.heap.size W20 W) (by kernel_rfl) (Below.refl _ _).drew (fun _ => ?_)
    obtain ⟨W21, hW21⟩ : ∃ x, x = W20.drew := ⟨_, rfl⟩
    rw [← hW21]
    have HB0_21 : Hid (Below W0.heap.size W0 W21) := Lib.hid (HB0_20.out.trans ((by rw [hW21]; exact (Below.refl _ _).drew : Below W20.heap.size W20 W21).mono HB0_20.out.size))
    have HB18_21 : Hid (Below W18.heap.size W18 W21) := Lib.hid (HB18_20.out.trans ((by rw [hW21]; exact (Below.refl _ _).drew : Below W20.heap.size W20 W21).mono HB18_20.out.size))
    have HB19_21 : Hid (Below W19.heap.size W19 W21) := Lib.hid (HB19_20.out.trans ((by rw [hW21]; exact (Below.refl _ _).drew : Below W20.heap.size W20 W21).mono HB19_20.out.size))
    have HB20_21 : Hid (Below W20.heap.size W20 W21) := Lib.hid (by rw [hW21]; exact (Below.refl _ _).drew)
    clear hW21
    refine wpAnyH_take (i := 0) (v := .int .i64 g1) rfl (by kernel_rfl) (by kernel_rfl) (by kernel_rfl) (fun _ _ _ h => h) (Or.inl ⟨by kernel_rfl, ?h0⟩) HB20_21.out ?_
    case h0 => (intro WX hWX; go_simp)
    go_simp
    refine wpAnyH_take (i := 1) (v := .int .i64 g1) rfl (by kernel_rfl) (by kernel_rfl) (by kernel_rfl) (fun _ _ _ h => h) (Or.inl ⟨by kernel_rfl, ?h1⟩) HB20_21.out ?_
    case h1 => (intro WX hWX; go_simp)
    go_simp
    refine wpAnyH_take (i := 2) (v := .bool true) rfl (by kernel_rfl) (by kernel_rfl) (by kernel_rfl) (fun _ _ _ h => h) (Or.inl ⟨by kernel_rfl, ?h2⟩) HB20_21.out ?_
    case h2 => (intro WX hWX; go_simp)
    go_simp
    refine wpAnyH_take (i := 3) (v := .bool true) rfl (by kernel_rfl) (by kernel_rfl) (by kernel_rfl) (fun _ _ _ h => h) (Or.inl ⟨by kernel_rfl, ?h3⟩) HB20_21.out ?_
    case h3 => (intro WX hWX; go_simp)
    go_simp
    refine wpAnyH_take (i := 4) (v := .int .i64 e1) rfl (by kernel_rfl) (by kernel_rfl) (by kernel_rfl) (fun _ _ _ h => h) (Or.inl ⟨by kernel_rfl, ?h4⟩) HB20_21.out ?_
    case h4 => (intro WX hWX; go_simp)
    go_simp
    refine wpAnyH_take (i := 5) (v := .int .i64 e1) rfl (by kernel_rfl) (by kernel_rfl) (by kernel_rfl) (fun _ _ _ h => h) (Or.inl ⟨by kernel_rfl, ?h5⟩) HB20_21.out ?_
    case h5 => (intro WX hWX; go_simp)
    go_simp
    refine wpAnyH_take (i := 6) (v := .bool true) rfl (by kernel_rfl) (by kernel_rfl) (by kernel_rfl) (fun _ _ _ h => h) (Or.inl ⟨by kernel_rfl, ?h6⟩) HB20_21.out ?_
    case h6 => (intro WX hWX; go_simp)
    go_simp
    refine wpAnyH_take (i := 7) (v := .bool true) rfl (by kernel_rfl) (by kernel_rfl) (by kernel_rfl) (fun _ _ _ h => h) (Or.inl ⟨by kernel_rfl, ?h7⟩) HB20_21.out ?_
    case h7 => (intro WX hWX; go_simp)
    go_simp
    refine wpAnyH_take (i := 8) (v := .bool true) rfl (by kernel_rfl) (by kernel_rfl) (by kernel_rfl) (fun _ _ _ h => h) (Or.inl ⟨by kernel_rfl, ?h8⟩) HB20_21.out ?_
    case h8 => (intro WX hWX; go_simp)
    go_simp
    refine wpAnyH_take (i := 9) (v := .agg #[.int .i64 i, .int .i64 a, .int .i64 y, .int .i64 d, .int .i64 q, .int .i64 p, .int .i64 f, .int .i64 ph, .int .i64 m, .int .i64 r, .int .i64 v, .bool g]) rfl (by kernel_rfl) (by kernel_rfl) (by kernel_rfl) (fun _ _ _ h => h) (Or.inl ⟨by kernel_rfl, ?h9⟩) HB20_21.out ?_
    case h9 => (intro WX hWX; obtain ⟨y0_0, y0_1, y0_2, y0_3, y0_4, y0_5, y0_6, y0_7, y0_8, y0_9, y0_10, y0_11⟩ := cells12 (HX18_o.out WX (HB18_20.out.trans ((show Below W20.heap.size W20 WX from hWX).mono HB18_20.out.size))); go_simp)
    go_simp
    refine wpAnyH_take (i := 11) (v := .agg #[.int .i64 i, .int .i64 a, .int .i64 y, .int .i64 d, .int .i64 q, .int .i64 p, .int .i64 f, .int .i64 ph, .int .i64 m, .int .i64 r, .int .i64 v, .bool g]) rfl (by kernel_rfl) (by kernel_rfl) (by kernel_rfl) (fun _ _ _ h => h) (Or.inl ⟨by kernel_rfl, ?h11⟩) HB20_21.out ?_
    case h11 => (intro WX hWX; obtain ⟨y0_0, y0_1, y0_2, y0_3, y0_4, y0_5, y0_6, y0_7, y0_8, y0_9, y0_10, y0_11⟩ := cells12 (HX18_o.out WX (HB18_20.out.trans ((show Below W20.heap.size W20 WX from hWX).mono HB18_20.out.size))); go_simp)
    go_simp
    refine wpAnyH_ready (rs := [10]) (by kernel_rfl) (by simp) ?_
    refine AllReadyH.cons rfl (fun K hK => ?_) AllReadyH.nil
    go_simp
    go_wp2_with (refine Calls.mono (order.open_is i a y d q p f ph m r v g HF.out H6.out _) ?_; rintro e22 W22 ⟨rfl, hb⟩)
    have HB0_22 : Hid (Below W0.heap.size W0 W22) := Lib.hid (HB0_21.out.trans ((hb : Below W21.heap.size W21 W22).mono HB0_21.out.size))
    have HB18_22 : Hid (Below W18.heap.size W18 W22) := Lib.hid (HB18_21.out.trans ((hb : Below W21.heap.size W21 W22).mono HB18_21.out.size))
    have HB19_22 : Hid (Below W19.heap.size W19 W22) := Lib.hid (HB19_21.out.trans ((hb : Below W21.heap.size W21 W22).mono HB19_21.out.size))
    have HB20_22 : Hid (Below W20.heap.size W20 W22) := Lib.hid (HB20_21.out.trans ((hb : Below W21.heap.size W21 W22).mono HB20_21.out.size))
    have HB21_22 : Hid (Below W21.heap.size W21 W22) := Lib.hid (hb)
    clear hb
    refine hK.out _ _ HB20_22.out (fun _ => ?_)
    clear hK K
    go_simp
    refine wpAnyH_ready (rs := [12]) (by kernel_rfl) (by simp) ?_
    refine AllReadyH.cons rfl (fun K hK => ?_) AllReadyH.nil
    go_simp
    go_wp2_with (refine Calls.mono (order.ropen_is i a y d q p f ph m r v g HF.out H6.out _) ?_; rintro e23 W23 ⟨rfl, hb⟩)
    have HB0_23 : Hid (Below W0.heap.size W0 W23) := Lib.hid (HB0_22.out.trans ((hb : Below W22.heap.size W22 W23).mono HB0_22.out.size))
    have HB18_23 : Hid (Below W18.heap.size W18 W23) := Lib.hid (HB18_22.out.trans ((hb : Below W22.heap.size W22 W23).mono HB18_22.out.size))
    have HB19_23 : Hid (Below W19.heap.size W19 W23) := Lib.hid (HB19_22.out.trans ((hb : Below W22.heap.size W22 W23).mono HB19_22.out.size))
    have HB20_23 : Hid (Below W20.heap.size W20 W23) := Lib.hid (HB20_22.out.trans ((hb : Below W22.heap.size W22 W23).mono HB20_22.out.size))
    have HB21_23 : Hid (Below W21.heap.size W21 W23) := Lib.hid (HB21_22.out.trans ((hb : Below W22.heap.size W22 W23).mono HB21_22.out.size))
    have HB22_23 : Hid (Below W22.heap.size W22 W23) := Lib.hid (hb)
    clear hb
    refine hK.out _ _ HB20_23.out (fun _ => ?_)
    clear hK K
    go_simp
    refine wpAnyH_take (i := 13) (v := .bool true) rfl (by kernel_rfl) (by kernel_rfl) (by kernel_rfl) (fun _ _ _ h => h) (Or.inl ⟨by kernel_rfl, ?h13⟩) HB20_23.out ?_
    case h13 => (intro WX hWX; go_simp)
    go_simp
    refine wpAnyH_take (i := 14) (v := .bool true) rfl (by kernel_rfl) (by kernel_rfl) (by kernel_rfl) (fun _ _ _ h => h) (Or.inl ⟨by kernel_rfl, ?h14⟩) HB20_23.out ?_
    case h14 => (intro WX hWX; go_simp)
    go_simp
    refine wpAnyH_take (i := 15) (v := .bool true) rfl (by kernel_rfl) (by kernel_rfl) (by kernel_rfl) (fun _ _ _ h => h) (Or.inl ⟨by kernel_rfl, ?h15⟩) HB20_23.out ?_
    case h15 => (intro WX hWX; go_simp)
    go_simp
    refine wpAnyH_done (by kernel_rfl) ?_ _
    go_wp2_with fail
    go_ret
    exact ⟨rfl, HBW.out.trans (HB0_23.out.mono HBW.out.size)⟩
  -- WALK ENDS

set_option maxRecDepth 100000 in
theorem lifted (os : Os) (started : os.Started) (H : Type) (enc : TypeId × Value → H) :
    ReturnsInHanded {} Try.checked os 3 .any (Rows.orderRightSpec.pre6 enc Try.prog Try.f3 Rows.orderRightRow.domain false) (Rows.orderRightSpec.post enc Try.prog Try.f3 false true false false) := by
  refine returnsInHanded_of_change (C := Try.checked) own started (by kernel_rfl) Try.func3
    (ChangeSpec.witness6 (enc := enc) (C := Try.checked) false ⟨#[], #[.agg #[.int .i64 0, .int .i64 0, .int .i64 0, .int .i64 0, .int .i64 0, .int .i64 0, .int .i64 0, .int .i64 0, .int .i64 0, .int .i64 0, .int .i64 0, .bool false], .agg #[.int .i64 0, .int .i64 0, .int .i64 0, .int .i64 0, .int .i64 0, .int .i64 0, .int .i64 0, .int .i64 0, .int .i64 0, .int .i64 0, .bool false, .int .i64 0, .int .i64 0], .agg #[.int .i64 0, .int .i64 0, .int .i64 0, .int .i64 0, .int .i64 0], .int .i64 0, .int .i64 0], []⟩ 8 (by kernel_rfl) (by kernel_rfl) (by kernel_rfl) (by kernel_rfl)) ?_
  intro W base args ds gs before hval0 hW hcnd _
  have hval : ∀ (j : Nat) t v, Try.f3.params[j]? = some t → args[j]? = some v → Value.okWide Try.prog W .any base t v := hval0
  have hW' := hW
  obtain ⟨p, q, hA0, hV, rfl, hfz, hnd⟩ := hW
  have hA : DataW.TrodAll enc Try.prog W 0 (fun _ => true) true Try.f3.params.toList args.toList ds p := hA0
  rw [Try.params3] at hA hval
  obtain ⟨v0, vs0, d0, ds0, p0_, q0, hargs, rfl, rfl, h0, r0⟩ := trodAll_cons hA
  obtain ⟨v1, vs1, d1, ds1, p1_, q1, rfl, rfl, rfl, h1, r1⟩ := trodAll_cons r0
  obtain ⟨v2, vs2, d2, ds2, p2_, q2, rfl, rfl, rfl, h2, r2⟩ := trodAll_cons r1
  obtain ⟨v3, vs3, d3, ds3, p3_, q3, rfl, rfl, rfl, h3, r3⟩ := trodAll_cons r2
  obtain ⟨v4, vs4, d4, ds4, p4_, q4, rfl, rfl, rfl, h4, r4⟩ := trodAll_cons r3
  obtain ⟨rfl, rfl, rfl⟩ := trodAll_nil r4
  obtain rfl : args = #[v0, v1, v2, v3, v4] := by cases args; simp_all
  obtain ⟨rfl, rfl⟩ := trodVars_none hV
  obtain ⟨cs0, rfl, hsz0⟩ := okWide_struct Try.underlying23 (hval 0 23 v0 rfl rfl)
  have k0 := h0
  have lt0 : ∀ x ∈ p0_, x.block < W.heap.size := by obtain ⟨m, hm⟩ := k0; exact DataW.trod_lt m _ _ _ hm
  obtain ⟨x0, w0⟩ := of_arg of_order k0
  obtain ⟨cs1, rfl, hsz1⟩ := okWide_struct Try.underlying25 (hval 1 25 v1 rfl rfl)
  have k1 := h1
  have lt1 : ∀ x ∈ p1_, x.block < W.heap.size := by obtain ⟨m, hm⟩ := k1; exact DataW.trod_lt m _ _ _ hm
  obtain ⟨x1, w1⟩ := of_arg of_rec k1
  obtain ⟨cs2, rfl, hsz2⟩ := okWide_struct Try.underlying27 (hval 2 27 v2 rfl rfl)
  have k2 := h2
  have lt2 : ∀ x ∈ p2_, x.block < W.heap.size := by obtain ⟨m, hm⟩ := k2; exact DataW.trod_lt m _ _ _ hm
  obtain ⟨x2, w2⟩ := of_arg of_note k2
  obtain ⟨a3, rfl, rfl, rfl, w3⟩ := open_int Try.underlying2 (hval 3 2 v3 rfl rfl) h3
  obtain ⟨a4, rfl, rfl, rfl, w4⟩ := open_int Try.underlying2 (hval 4 2 v4 rfl rfl) h4
  clear hA0 hval0
  refine (walk cs0 x0 cs1 x1 cs2 x2 a3 a4 W w0 w1 w2 w3 w4).mono fun e W' ⟨he, bel⟩ => ?_
  subst he
  exact ⟨_, rfl, _, _, _, [], _, [], hW', trodAll_mk1 (shut_bool Try.underlying4 _), (trodAll_cons_mk (Below.trod laidOut (by kernel_rfl) (of_decide_eq_true (by kernel_rfl)) k0 bel lt0) (trodAll_cons_mk (Below.trod laidOut (by kernel_rfl) (of_decide_eq_true (by kernel_rfl)) k1 bel lt1) (trodAll_cons_mk (Below.trod laidOut (by kernel_rfl) (of_decide_eq_true (by kernel_rfl)) k2 bel lt2) (trodAll_cons_mk (shut_int Try.underlying2 w3) (trodAll_cons_mk (shut_int Try.underlying2 w4) trodAll_mk0))))), rfl, bel.frame _, fun h => by cases h⟩

theorem over : Rows.orderRightRow.holds Try.pinned (OpenSpec.ofChange Rows.orderRightSpec) :=
  OpenClaim.holds_of_wide 3 Try.f3 rfl rfl rfl rfl rfl rfl rfl ⟨rfl, rfl, rfl, rfl, rfl⟩ rfl rfl rfl rfl rfl (by kernel_rfl) Try.func3 (by kernel_rfl)
    (of_decide_eq_true (by kernel_rfl)) (by unfold Func.isWrapper; first | (rw [if_pos (by decide +kernel)]; kernel_rfl) | (rw [if_neg (by decide +kernel)]; exact ⟨rfl, rfl⟩))
    (fun os started H enc _ => lifted os started H enc)

theorem proved : Rows.OrderRightSaid := over
#print axioms proved
end Go.Proofs.Ytfnapckjccjjjaa.orderRight
