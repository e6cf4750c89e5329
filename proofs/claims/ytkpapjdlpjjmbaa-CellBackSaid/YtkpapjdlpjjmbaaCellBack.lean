/-
  PROVED: the law CellBack answers true at every input, and leaves what it was given as it was.
  CONDITIONS: none.
-/
import Derived.Test.YtkpapjdlpjjmbaaRows
import Derived.WalkKit
import Derived.ProofKit
import Derived.OpenShut
import Derived.ShutString
import Derived.ChangeOld
import Derived.Below
import Derived.Test.YtkpapjdlpjjmbaaOrdImplO
import Derived.Deep.RegionHeld
import Derived.Deep.DrawnRows
import Derived.Deep.DeepCutAuto
import Derived.Test.YtkpapjdlpjjmbaaAwake08
import Derived.Test.YtkpapjdlpjjmbaaOrdEq
import Derived.Test.YtkpapjdlpjjmbaaCellMath2
import Derived.Test.YtkpapjdlpjjmbaaCellEq
import Derived.Test.YtkpapjdlpjjmbaaRead
namespace Go.Proofs.Ytkpapjdlpjjmbaa.cellBack
open Go.ChangeShapes Go.WideShapes Go.ChangeAt Go.RowKit
open Go.ChangeMaps (open_string shut_string)
open Go.Proofs.Ytkpapjdlpjjmbaa Go.Proofs.Ytkpapjdlpjjmbaa.cell
open Go.Proofs.Ytkpapjdlpjjmbaa.order (eq_cases)
attribute [local go_sem] undef
attribute [local go_sem ↓] Go.wp_at_zero Go.wp_at_succ
set_option linter.unusedVariables false

theorem own : ownKnob Try.prog.godebug = none := by kernel_rfl
theorem laidOut : laidOutB Try.prog = true := by kernel_rfl

set_option maxHeartbeats 8000000 in
set_option maxRecDepth 100000 in
theorem walk (cs0 : Array Value) (x0 : CellD) (cs1 : Array Value) (x1 : OrderD) (cs2 : Array Value) (x2 : OrderD) (w : World) (w0 : rdCell w (Lt w.heap.size) cs0.toList x0) (w1 : rdOrder w (Lt w.heap.size) cs1.toList x1) (w2 : rdOrder w (Lt w.heap.size) cs2.toList x2) :
    Calls Try.prog 4 #[.agg cs0, .agg cs1, .agg cs2] w fun e w' => e = .returned (.bool true) ∧ Below w.heap.size w w' := by
  -- WALK BEGINS
  obtain ⟨hc0, hf0⟩ := w0
  obtain rfl : cs0 = cell.cc x0 := by apply Array.toList_inj.1; exact hc0
  clear hc0
  obtain ⟨cp, cb, cs, cn⟩ := x0
  obtain ⟨hc1, hf1⟩ := w1
  obtain rfl : cs1 = order.oc x1 := by apply Array.toList_inj.1; exact hc1
  clear hc1
  obtain ⟨i, a, y, d, q, p, f, ph, m, r, v, g⟩ := x1
  obtain ⟨hc2, hf2⟩ := w2
  obtain rfl : cs2 = order.oc x2 := by apply Array.toList_inj.1; exact hc2
  clear hc2
  obtain ⟨iP, aP, yP, dP, qP, pP, fP, phP, mP, rP, vP, gP⟩ := x2
  show Calls Try.prog 4 #[.agg #[.int .i64 cp, .int .i64 cb, .int .i64 cs, .int .i64 cn], .agg #[.int .i64 i, .int .i64 a, .int .i64 y, .int .i64 d, .int .i64 q, .int .i64 p, .int .i64 f, .int .i64 ph, .int .i64 m, .int .i64 r, .int .i64 v, .bool g], .agg #[.int .i64 iP, .int .i64 aP, .int .i64 yP, .int .i64 dP, .int .i64 qP, .int .i64 pP, .int .i64 fP, .int .i64 phP, .int .i64 mP, .int .i64 rP, .int .i64 vP, .bool gP]] w _
  obtain ⟨W0, HW0⟩ : ∃ W, Hid ((((w.alloc (.cells #[.int .i64 cp, .int .i64 cb, .int .i64 cs, .int .i64 cn] 23)).alloc (.cells #[.int .i64 i, .int .i64 a, .int .i64 y, .int .i64 d, .int .i64 q, .int .i64 p, .int .i64 f, .int .i64 ph, .int .i64 m, .int .i64 r, .int .i64 v, .bool g] 25)).alloc (.cells #[.int .i64 iP, .int .i64 aP, .int .i64 yP, .int .i64 dP, .int .i64 qP, .int .i64 pP, .int .i64 fP, .int .i64 phP, .int .i64 mP, .int .i64 rP, .int .i64 vP, .bool gP] 25)) = W) := ⟨_, Lib.hid rfl⟩
  have HBw0 : Hid (Below w.heap.size w W0) := Lib.hid (by rw [← HW0.out]; exact (((Below.refl _ _).alloc (by simp) _).alloc (by simp; try omega) _).alloc (by simp; try omega) _)
  have HX0_0 : Hid (∀ W, Below W0.heap.size W0 W → W.heap[w.heap.size]? = some (.cells #[.int .i64 cp, .int .i64 cb, .int .i64 cs, .int .i64 cn] 23 (0, 0))) := Lib.hid (fun W hb => (hb.block _ (by rw [← HW0.out]; simp; try omega)).trans (by rw [← HW0.out]; refine (Below.heap_alloc _ _ _ (by simp; try omega)).trans ?_; refine (Below.heap_alloc _ _ _ (by simp; try omega)).trans ?_; have := heap_alloc_new w (.cells #[.int .i64 cp, .int .i64 cb, .int .i64 cs, .int .i64 cn] 23); exact this))
  have HX1_0 : Hid (∀ W, Below W0.heap.size W0 W → W.heap[w.heap.size + 1]? = some (.cells #[.int .i64 i, .int .i64 a, .int .i64 y, .int .i64 d, .int .i64 q, .int .i64 p, .int .i64 f, .int .i64 ph, .int .i64 m, .int .i64 r, .int .i64 v, .bool g] 25 (0, 0))) := Lib.hid (fun W hb => (hb.block _ (by rw [← HW0.out]; simp; try omega)).trans (by rw [← HW0.out]; refine (Below.heap_alloc _ _ _ (by simp; try omega)).trans ?_; have := heap_alloc_new (w.alloc (.cells #[.int .i64 cp, .int .i64 cb, .int .i64 cs, .int .i64 cn] 23)) (.cells #[.int .i64 i, .int .i64 a, .int .i64 y, .int .i64 d, .int .i64 q, .int .i64 p, .int .i64 f, .int .i64 ph, .int .i64 m, .int .i64 r, .int .i64 v, .bool g] 25); simp only [World.size_alloc] at this; exact this))
  have HX2_0 : Hid (∀ W, Below W0.heap.size W0 W → W.heap[w.heap.size + 1 + 1]? = some (.cells #[.int .i64 iP, .int .i64 aP, .int .i64 yP, .int .i64 dP, .int .i64 qP, .int .i64 pP, .int .i64 fP, .int .i64 phP, .int .i64 mP, .int .i64 rP, .int .i64 vP, .bool gP] 25 (0, 0))) := Lib.hid (fun W hb => (hb.block _ (by rw [← HW0.out]; simp; try omega)).trans (by rw [← HW0.out]; have := heap_alloc_new ((w.alloc (.cells #[.int .i64 cp, .int .i64 cb, .int .i64 cs, .int .i64 cn] 23)).alloc (.cells #[.int .i64 i, .int .i64 a, .int .i64 y, .int .i64 d, .int .i64 q, .int .i64 p, .int .i64 f, .int .i64 ph, .int .i64 m, .int .i64 r, .int .i64 v, .bool g] 25)) (.cells #[.int .i64 iP, .int .i64 aP, .int .i64 yP, .int .i64 dP, .int .i64 qP, .int .i64 pP, .int .i64 fP, .int .i64 phP, .int .i64 mP, .int .i64 rP, .int .i64 vP, .bool gP] 25); simp only [World.size_alloc] at this; exact this))
  have HF := Lib.hid hf0
  have HFO := Lib.hid hf1
  have HFP := Lib.hid hf2
  clear hf0 hf1 hf2
  go_enter Try.func4, Try.ntmps4
  go_upto_region 1 with fail
  rw [HW0.out]
  go_wp2_with fail
  refine Calls.mono (awake_any _) ?_
  rintro e1 W1 ⟨rfl, hb⟩
  have HBw1 : Hid (Below w.heap.size w W1) := Lib.hid (HBw0.out.trans ((hb : Below W0.heap.size W0 W1).mono HBw0.out.size))
  have HB0_1 : Hid (Below W0.heap.size W0 W1) := Lib.hid (hb)
  clear hb
  obtain ⟨⟨⟨dp1, db1, ds1, dn1⟩, e1⟩, hh⟩ : ∃ x, come ⟨cp, cb, cs, cn⟩ ⟨i, a, y, d, q, p, f, ph, m, r, v, g⟩ = x := ⟨_, rfl⟩
  have HD1 := Lib.hid hh
  have HF1 : Hid ((⟨dp1, db1, ds1, dn1⟩ : Ce).fine) := Lib.hid (come_fine HF.out hh)
  clear hh
  obtain ⟨k3_0, k3_1, k3_2, k3_3⟩ := cells4 (HX0_0.out W1 HB0_1.out)
  obtain ⟨k4_0, k4_1, k4_2, k4_3, k4_4, k4_5, k4_6, k4_7, k4_8, k4_9, k4_10, k4_11⟩ := order.cells12 (HX1_0.out W1 HB0_1.out)
  go_wp2_with fail
  refine Calls.mono (come_is cp cb cs cn i a y d q p f ph m r v g HF.out HFO.out HD1.out _) ?_
  rintro e2 W2 ⟨rfl, hb⟩
  have HBw2 : Hid (Below w.heap.size w W2) := Lib.hid (HBw1.out.trans ((hb : Below W1.heap.size W1 W2).mono HBw1.out.size))
  have HB0_2 : Hid (Below W0.heap.size W0 W2) := Lib.hid (HB0_1.out.trans ((hb : Below W1.heap.size W1 W2).mono HB0_1.out.size))
  have HB1_2 : Hid (Below W1.heap.size W1 W2) := Lib.hid (hb)
  clear hb
  clear k3_0 k3_1 k3_2 k3_3 k4_0 k4_1 k4_2 k4_3 k4_4 k4_5 k4_6 k4_7 k4_8 k4_9 k4_10 k4_11
  go_upto_region 4 with fail
  obtain ⟨W3, HW3⟩ : ∃ W, Hid ((W2.alloc (.cells #[.int .i64 dp1, .int .i64 db1, .int .i64 ds1, .int .i64 dn1] 23)) = W) := ⟨_, Lib.hid rfl⟩
  have NE_3_7_3 : Hid (w.heap.size ≠ W2.heap.size) := Lib.hid (Nat.ne_of_lt (Array.getElem?_eq_some_iff.1 (HX0_0.out W2 HB0_2.out)).1)
  have NE_3_7_4 : Hid (w.heap.size + 1 ≠ W2.heap.size) := Lib.hid (Nat.ne_of_lt (Array.getElem?_eq_some_iff.1 (HX1_0.out W2 HB0_2.out)).1)
  have NE_3_7_5 : Hid (w.heap.size + 1 + 1 ≠ W2.heap.size) := Lib.hid (Nat.ne_of_lt (Array.getElem?_eq_some_iff.1 (HX2_0.out W2 HB0_2.out)).1)
  have LE_3 : Hid (w.heap.size ≤ W2.heap.size) := Lib.hid HBw2.out.size
  have HBw3 : Hid (Below w.heap.size w W3) := Lib.hid (HBw2.out.trans ((by rw [← HW3.out]; exact (Below.refl _ _).alloc (Nat.le_refl _) _ : Below W2.heap.size W2 W3).mono HBw2.out.size))
  have HB0_3 : Hid (Below W0.heap.size W0 W3) := Lib.hid (HB0_2.out.trans ((by rw [← HW3.out]; exact (Below.refl _ _).alloc (Nat.le_refl _) _ : Below W2.heap.size W2 W3).mono HB0_2.out.size))
  have HB1_3 : Hid (Below W1.heap.size W1 W3) := Lib.hid (HB1_2.out.trans ((by rw [← HW3.out]; exact (Below.refl _ _).alloc (Nat.le_refl _) _ : Below W2.heap.size W2 W3).mono HB1_2.out.size))
  have HB2_3 : Hid (Below W2.heap.size W2 W3) := Lib.hid (by rw [← HW3.out]; exact (Below.refl _ _).alloc (Nat.le_refl _) _)
  have HX7_3 : Hid (∀ W, Below W3.heap.size W3 W → W.heap[W2.heap.size]? = some (.cells #[.int .i64 dp1, .int .i64 db1, .int .i64 ds1, .int .i64 dn1] 23 (0, 0))) := Lib.hid (fun W hb => (hb.block _ (by rw [← HW3.out]; simp)).trans (by rw [← HW3.out]; exact heap_alloc_new _ _))
  rw [HW3.out]
  rcases eq_cases e1 0 with ⟨HEz1, hez1, hfz1⟩ | ⟨HEz1, hez1, hfz1⟩
  · obtain rfl : e1 = 0 := HEz1.out
    obtain ⟨k7_0, k7_1, k7_2, k7_3⟩ := cells4 (HX7_3.out W3 (Below.refl _ _))
    obtain ⟨k4_0, k4_1, k4_2, k4_3, k4_4, k4_5, k4_6, k4_7, k4_8, k4_9, k4_10, k4_11⟩ := order.cells12 (HX1_0.out W3 HB0_3.out)
    go_wp2_with fail
    refine Calls.mono (go_is dp1 db1 ds1 dn1 i a y d q p f ph m r v g HF1.out HFO.out (come_go HF.out HD1.out) _) ?_
    rintro e4 W4 ⟨rfl, hb⟩
    have HBw4 : Hid (Below w.heap.size w W4) := Lib.hid (HBw3.out.trans ((hb : Below W3.heap.size W3 W4).mono HBw3.out.size))
    have HB0_4 : Hid (Below W0.heap.size W0 W4) := Lib.hid (HB0_3.out.trans ((hb : Below W3.heap.size W3 W4).mono HB0_3.out.size))
    have HB1_4 : Hid (Below W1.heap.size W1 W4) := Lib.hid (HB1_3.out.trans ((hb : Below W3.heap.size W3 W4).mono HB1_3.out.size))
    have HB2_4 : Hid (Below W2.heap.size W2 W4) := Lib.hid (HB2_3.out.trans ((hb : Below W3.heap.size W3 W4).mono HB2_3.out.size))
    have HB3_4 : Hid (Below W3.heap.size W3 W4) := Lib.hid (hb)
    clear hb
    clear k7_0 k7_1 k7_2 k7_3 k4_0 k4_1 k4_2 k4_3 k4_4 k4_5 k4_6 k4_7 k4_8 k4_9 k4_10 k4_11
    go_upto_region 7 with fail
    obtain ⟨W5, HW5⟩ : ∃ W, Hid ((W4.alloc (.cells #[.int .i64 cp, .int .i64 cb, .int .i64 cs, .int .i64 cn] 23)) = W) := ⟨_, Lib.hid rfl⟩
    have NE_5_9_3 : Hid (w.heap.size ≠ W4.heap.size) := Lib.hid (Nat.ne_of_lt (Array.getElem?_eq_some_iff.1 (HX0_0.out W4 HB0_4.out)).1)
    have NE_5_9_4 : Hid (w.heap.size + 1 ≠ W4.heap.size) := Lib.hid (Nat.ne_of_lt (Array.getElem?_eq_some_iff.1 (HX1_0.out W4 HB0_4.out)).1)
    have NE_5_9_5 : Hid (w.heap.size + 1 + 1 ≠ W4.heap.size) := Lib.hid (Nat.ne_of_lt (Array.getElem?_eq_some_iff.1 (HX2_0.out W4 HB0_4.out)).1)
    have NE_5_9_7 : Hid (W2.heap.size ≠ W4.heap.size) := Lib.hid (Nat.ne_of_lt (Array.getElem?_eq_some_iff.1 (HX7_3.out W4 HB3_4.out)).1)
    have LE_5 : Hid (w.heap.size ≤ W4.heap.size) := Lib.hid HBw4.out.size
    have HBw5 : Hid (Below w.heap.size w W5) := Lib.hid (HBw4.out.trans ((by rw [← HW5.out]; exact (Below.refl _ _).alloc (Nat.le_refl _) _ : Below W4.heap.size W4 W5).mono HBw4.out.size))
    have HB0_5 : Hid (Below W0.heap.size W0 W5) := Lib.hid (HB0_4.out.trans ((by rw [← HW5.out]; exact (Below.refl _ _).alloc (Nat.le_refl _) _ : Below W4.heap.size W4 W5).mono HB0_4.out.size))
    have HB1_5 : Hid (Below W1.heap.size W1 W5) := Lib.hid (HB1_4.out.trans ((by rw [← HW5.out]; exact (Below.refl _ _).alloc (Nat.le_refl _) _ : Below W4.heap.size W4 W5).mono HB1_4.out.size))
    have HB2_5 : Hid (Below W2.heap.size W2 W5) := Lib.hid (HB2_4.out.trans ((by rw [← HW5.out]; exact (Below.refl _ _).alloc (Nat.le_refl _) _ : Below W4.heap.size W4 W5).mono HB2_4.out.size))
    have HB3_5 : Hid (Below W3.heap.size W3 W5) := Lib.hid (HB3_4.out.trans ((by rw [← HW5.out]; exact (Below.refl _ _).alloc (Nat.le_refl _) _ : Below W4.heap.size W4 W5).mono HB3_4.out.size))
    have HB4_5 : Hid (Below W4.heap.size W4 W5) := Lib.hid (by rw [← HW5.out]; exact (Below.refl _ _).alloc (Nat.le_refl _) _)
    have HX9_5 : Hid (∀ W, Below W5.heap.size W5 W → W.heap[W4.heap.size]? = some (.cells #[.int .i64 cp, .int .i64 cb, .int .i64 cs, .int .i64 cn] 23 (0, 0))) := Lib.hid (fun W hb => (hb.block _ (by rw [← HW5.out]; simp)).trans (by rw [← HW5.out]; exact heap_alloc_new _ _))
    rw [HW5.out]
    have HOc : Hid (of_ ⟨cp, cb, cs, cn⟩ = (⟨(cp + cb), (cs - cp), cn⟩, 0)) := Lib.hid (come_of HD1.out).1
    obtain ⟨k3_0, k3_1, k3_2, k3_3⟩ := cells4 (HX0_0.out W5 HB0_5.out)
    go_wp2_with fail
    refine Calls.mono (of_is cp cb cs cn HF.out HOc.out _) ?_
    rintro e6 W6 ⟨rfl, hb⟩
    have HBw6 : Hid (Below w.heap.size w W6) := Lib.hid (HBw5.out.trans ((hb : Below W5.heap.size W5 W6).mono HBw5.out.size))
    have HB0_6 : Hid (Below W0.heap.size W0 W6) := Lib.hid (HB0_5.out.trans ((hb : Below W5.heap.size W5 W6).mono HB0_5.out.size))
    have HB1_6 : Hid (Below W1.heap.size W1 W6) := Lib.hid (HB1_5.out.trans ((hb : Below W5.heap.size W5 W6).mono HB1_5.out.size))
    have HB2_6 : Hid (Below W2.heap.size W2 W6) := Lib.hid (HB2_5.out.trans ((hb : Below W5.heap.size W5 W6).mono HB2_5.out.size))
    have HB3_6 : Hid (Below W3.heap.size W3 W6) := Lib.hid (HB3_5.out.trans ((hb : Below W5.heap.size W5 W6).mono HB3_5.out.size))
    have HB4_6 : Hid (Below W4.heap.size W4 W6) := Lib.hid (HB4_5.out.trans ((hb : Below W5.heap.size W5 W6).mono HB4_5.out.size))
    have HB5_6 : Hid (Below W5.heap.size W5 W6) := Lib.hid (hb)
    clear hb
    clear k3_0 k3_1 k3_2 k3_3
    go_upto_region 8 with fail
    obtain ⟨W7, HW7⟩ : ∃ W, Hid ((W6.alloc (.cells #[.int .i64 (cp + cb), .int .i64 (cs - cp), .int .i64 cn] 27)) = W) := ⟨_, Lib.hid rfl⟩
    have NE_7_11_3 : Hid (w.heap.size ≠ W6.heap.size) := Lib.hid (Nat.ne_of_lt (Array.getElem?_eq_some_iff.1 (HX0_0.out W6 HB0_6.out)).1)
    have NE_7_11_4 : Hid (w.heap.size + 1 ≠ W6.heap.size) := Lib.hid (Nat.ne_of_lt (Array.getElem?_eq_some_iff.1 (HX1_0.out W6 HB0_6.out)).1)
    have NE_7_11_5 : Hid (w.heap.size + 1 + 1 ≠ W6.heap.size) := Lib.hid (Nat.ne_of_lt (Array.getElem?_eq_some_iff.1 (HX2_0.out W6 HB0_6.out)).1)
    have NE_7_11_7 : Hid (W2.heap.size ≠ W6.heap.size) := Lib.hid (Nat.ne_of_lt (Array.getElem?_eq_some_iff.1 (HX7_3.out W6 HB3_6.out)).1)
    have NE_7_11_9 : Hid (W4.heap.size ≠ W6.heap.size) := Lib.hid (Nat.ne_of_lt (Array.getElem?_eq_some_iff.1 (HX9_5.out W6 HB5_6.out)).1)
    have LE_7 : Hid (w.heap.size ≤ W6.heap.size) := Lib.hid HBw6.out.size
    have HBw7 : Hid (Below w.heap.size w W7) := Lib.hid (HBw6.out.trans ((by rw [← HW7.out]; exact (Below.refl _ _).alloc (Nat.le_refl _) _ : Below W6.heap.size W6 W7).mono HBw6.out.size))
    have HB0_7 : Hid (Below W0.heap.size W0 W7) := Lib.hid (HB0_6.out.trans ((by rw [← HW7.out]; exact (Below.refl _ _).alloc (Nat.le_refl _) _ : Below W6.heap.size W6 W7).mono HB0_6.out.size))
    have HB1_7 : Hid (Below W1.heap.size W1 W7) := Lib.hid (HB1_6.out.trans ((by rw [← HW7.out]; exact (Below.refl _ _).alloc (Nat.le_refl _) _ : Below W6.heap.size W6 W7).mono HB1_6.out.size))
    have HB2_7 : Hid (Below W2.heap.size W2 W7) := Lib.hid (HB2_6.out.trans ((by rw [← HW7.out]; exact (Below.refl _ _).alloc (Nat.le_refl _) _ : Below W6.heap.size W6 W7).mono HB2_6.out.size))
    have HB3_7 : Hid (Below W3.heap.size W3 W7) := Lib.hid (HB3_6.out.trans ((by rw [← HW7.out]; exact (Below.refl _ _).alloc (Nat.le_refl _) _ : Below W6.heap.size W6 W7).mono HB3_6.out.size))
    have HB4_7 : Hid (Below W4.heap.size W4 W7) := Lib.hid (HB4_6.out.trans ((by rw [← HW7.out]; exact (Below.refl _ _).alloc (Nat.le_refl _) _ : Below W6.heap.size W6 W7).mono HB4_6.out.size))
    have HB5_7 : Hid (Below W5.heap.size W5 W7) := Lib.hid (HB5_6.out.trans ((by rw [← HW7.out]; exact (Below.refl _ _).alloc (Nat.le_refl _) _ : Below W6.heap.size W6 W7).mono HB5_6.out.size))
    have HB6_7 : Hid (Below W6.heap.size W6 W7) := Lib.hid (by rw [← HW7.out]; exact (Below.refl _ _).alloc (Nat.le_refl _) _)
    have HX11_7 : Hid (∀ W, Below W7.heap.size W7 W → W.heap[W6.heap.size]? = some (.cells #[.int .i64 (cp + cb), .int .i64 (cs - cp), .int .i64 cn] 27 (0, 0))) := Lib.hid (fun W hb => (hb.block _ (by rw [← HW7.out]; simp)).trans (by rw [← HW7.out]; exact heap_alloc_new _ _))
    rw [HW7.out]
    have HOd : Hid (of_ ⟨dp1, db1, ds1, dn1⟩ = (⟨(dp1 + db1), (ds1 - dp1), dn1⟩, 0)) := Lib.hid (come_of HD1.out).2.1
    obtain ⟨k7_0, k7_1, k7_2, k7_3⟩ := cells4 (HX7_3.out W7 HB3_7.out)
    go_wp2_with fail
    refine Calls.mono (of_is dp1 db1 ds1 dn1 HF1.out HOd.out _) ?_
    rintro e8 W8 ⟨rfl, hb⟩
    have HBw8 : Hid (Below w.heap.size w W8) := Lib.hid (HBw7.out.trans ((hb : Below W7.heap.size W7 W8).mono HBw7.out.size))
    have HB0_8 : Hid (Below W0.heap.size W0 W8) := Lib.hid (HB0_7.out.trans ((hb : Below W7.heap.size W7 W8).mono HB0_7.out.size))
    have HB1_8 : Hid (Below W1.heap.size W1 W8) := Lib.hid (HB1_7.out.trans ((hb : Below W7.heap.size W7 W8).mono HB1_7.out.size))
    have HB2_8 : Hid (Below W2.heap.size W2 W8) := Lib.hid (HB2_7.out.trans ((hb : Below W7.heap.size W7 W8).mono HB2_7.out.size))
    have HB3_8 : Hid (Below W3.heap.size W3 W8) := Lib.hid (HB3_7.out.trans ((hb : Below W7.heap.size W7 W8).mono HB3_7.out.size))
    have HB4_8 : Hid (Below W4.heap.size W4 W8) := Lib.hid (HB4_7.out.trans ((hb : Below W7.heap.size W7 W8).mono HB4_7.out.size))
    have HB5_8 : Hid (Below W5.heap.size W5 W8) := Lib.hid (HB5_7.out.trans ((hb : Below W7.heap.size W7 W8).mono HB5_7.out.size))
    have HB6_8 : Hid (Below W6.heap.size W6 W8) := Lib.hid (HB6_7.out.trans ((hb : Below W7.heap.size W7 W8).mono HB6_7.out.size))
    have HB7_8 : Hid (Below W7.heap.size W7 W8) := Lib.hid (hb)
    clear hb
    clear k7_0 k7_1 k7_2 k7_3
    go_upto_region 9 with fail
    obtain ⟨W9, HW9⟩ : ∃ W, Hid ((W8.alloc (.cells #[.int .i64 (dp1 + db1), .int .i64 (ds1 - dp1), .int .i64 dn1] 27)) = W) := ⟨_, Lib.hid rfl⟩
    have NE_9_13_3 : Hid (w.heap.size ≠ W8.heap.size) := Lib.hid (Nat.ne_of_lt (Array.getElem?_eq_some_iff.1 (HX0_0.out W8 HB0_8.out)).1)
    have NE_9_13_4 : Hid (w.heap.size + 1 ≠ W8.heap.size) := Lib.hid (Nat.ne_of_lt (Array.getElem?_eq_some_iff.1 (HX1_0.out W8 HB0_8.out)).1)
    have NE_9_13_5 : Hid (w.heap.size + 1 + 1 ≠ W8.heap.size) := Lib.hid (Nat.ne_of_lt (Array.getElem?_eq_some_iff.1 (HX2_0.out W8 HB0_8.out)).1)
    have NE_9_13_7 : Hid (W2.heap.size ≠ W8.heap.size) := Lib.hid (Nat.ne_of_lt (Array.getElem?_eq_some_iff.1 (HX7_3.out W8 HB3_8.out)).1)
    have NE_9_13_9 : Hid (W4.heap.size ≠ W8.heap.size) := Lib.hid (Nat.ne_of_lt (Array.getElem?_eq_some_iff.1 (HX9_5.out W8 HB5_8.out)).1)
    have NE_9_13_11 : Hid (W6.heap.size ≠ W8.heap.size) := Lib.hid (Nat.ne_of_lt (Array.getElem?_eq_some_iff.1 (HX11_7.out W8 HB7_8.out)).1)
    have LE_9 : Hid (w.heap.size ≤ W8.heap.size) := Lib.hid HBw8.out.size
    have HBw9 : Hid (Below w.heap.size w W9) := Lib.hid (HBw8.out.trans ((by rw [← HW9.out]; exact (Below.refl _ _).alloc (Nat.le_refl _) _ : Below W8.heap.size W8 W9).mono HBw8.out.size))
    have HB0_9 : Hid (Below W0.heap.size W0 W9) := Lib.hid (HB0_8.out.trans ((by rw [← HW9.out]; exact (Below.refl _ _).alloc (Nat.le_refl _) _ : Below W8.heap.size W8 W9).mono HB0_8.out.size))
    have HB1_9 : Hid (Below W1.heap.size W1 W9) := Lib.hid (HB1_8.out.trans ((by rw [← HW9.out]; exact (Below.refl _ _).alloc (Nat.le_refl _) _ : Below W8.heap.size W8 W9).mono HB1_8.out.size))
    have HB2_9 : Hid (Below W2.heap.size W2 W9) := Lib.hid (HB2_8.out.trans ((by rw [← HW9.out]; exact (Below.refl _ _).alloc (Nat.le_refl _) _ : Below W8.heap.size W8 W9).mono HB2_8.out.size))
    have HB3_9 : Hid (Below W3.heap.size W3 W9) := Lib.hid (HB3_8.out.trans ((by rw [← HW9.out]; exact (Below.refl _ _).alloc (Nat.le_refl _) _ : Below W8.heap.size W8 W9).mono HB3_8.out.size))
    have HB4_9 : Hid (Below W4.heap.size W4 W9) := Lib.hid (HB4_8.out.trans ((by rw [← HW9.out]; exact (Below.refl _ _).alloc (Nat.le_refl _) _ : Below W8.heap.size W8 W9).mono HB4_8.out.size))
    have HB5_9 : Hid (Below W5.heap.size W5 W9) := Lib.hid (HB5_8.out.trans ((by rw [← HW9.out]; exact (Below.refl _ _).alloc (Nat.le_refl _) _ : Below W8.heap.size W8 W9).mono HB5_8.out.size))
    have HB6_9 : Hid (Below W6.heap.size W6 W9) := Lib.hid (HB6_8.out.trans ((by rw [← HW9.out]; exact (Below.refl _ _).alloc (Nat.le_refl _) _ : Below W8.heap.size W8 W9).mono HB6_8.out.size))
    have HB7_9 : Hid (Below W7.heap.size W7 W9) := Lib.hid (HB7_8.out.trans ((by rw [← HW9.out]; exact (Below.refl _ _).alloc (Nat.le_refl _) _ : Below W8.heap.size W8 W9).mono HB7_8.out.size))
    have HB8_9 : Hid (Below W8.heap.size W8 W9) := Lib.hid (by rw [← HW9.out]; exact (Below.refl _ _).alloc (Nat.le_refl _) _)
    have HX13_9 : Hid (∀ W, Below W9.heap.size W9 W → W.heap[W8.heap.size]? = some (.cells #[.int .i64 (dp1 + db1), .int .i64 (ds1 - dp1), .int .i64 dn1] 27 (0, 0))) := Lib.hid (fun W hb => (hb.block _ (by rw [← HW9.out]; simp)).trans (by rw [← HW9.out]; exact heap_alloc_new _ _))
    rw [HW9.out]
    have heq2 : ∀ W, (Op.equalIn 10000 23 (.agg #[.int .i64 cp, .int .i64 cb, .int .i64 cs, .int .i64 cn]) (.agg #[.int .i64 cp, .int .i64 cb, .int .i64 cs, .int .i64 cn])).run Try.prog W = .ok true W := fun W => eq4_of rfl rfl HF.out HF.out (decide_eq_true rfl) W
    obtain ⟨k9_0, k9_1, k9_2, k9_3⟩ := cells4 (HX9_5.out W9 HB5_9.out)
    obtain ⟨k3_0, k3_1, k3_2, k3_3⟩ := cells4 (HX0_0.out W9 HB0_9.out)
    obtain ⟨k13_0, k13_1, k13_2⟩ := cells3 (HX13_9.out W9 (Below.refl _ _))
    obtain ⟨k11_0, k11_1, k11_2⟩ := cells3 (HX11_7.out W9 HB7_9.out)
    go_wp2_with fail
    refine Calls.mono (covers_is (dp1 + db1) (ds1 - dp1) dn1 (cp + cb) (cs - cp) cn (come_of HD1.out).2.2.1 _) ?_
    rintro e10 W10 ⟨rfl, hb⟩
    have HBw10 : Hid (Below w.heap.size w W10) := Lib.hid (HBw9.out.trans ((hb : Below W9.heap.size W9 W10).mono HBw9.out.size))
    have HB0_10 : Hid (Below W0.heap.size W0 W10) := Lib.hid (HB0_9.out.trans ((hb : Below W9.heap.size W9 W10).mono HB0_9.out.size))
    have HB1_10 : Hid (Below W1.heap.size W1 W10) := Lib.hid (HB1_9.out.trans ((hb : Below W9.heap.size W9 W10).mono HB1_9.out.size))
    have HB2_10 : Hid (Below W2.heap.size W2 W10) := Lib.hid (HB2_9.out.trans ((hb : Below W9.heap.size W9 W10).mono HB2_9.out.size))
    have HB3_10 : Hid (Below W3.heap.size W3 W10) := Lib.hid (HB3_9.out.trans ((hb : Below W9.heap.size W9 W10).mono HB3_9.out.size))
    have HB4_10 : Hid (Below W4.heap.size W4 W10) := Lib.hid (HB4_9.out.trans ((hb : Below W9.heap.size W9 W10).mono HB4_9.out.size))
    have HB5_10 : Hid (Below W5.heap.size W5 W10) := Lib.hid (HB5_9.out.trans ((hb : Below W9.heap.size W9 W10).mono HB5_9.out.size))
    have HB6_10 : Hid (Below W6.heap.size W6 W10) := Lib.hid (HB6_9.out.trans ((hb : Below W9.heap.size W9 W10).mono HB6_9.out.size))
    have HB7_10 : Hid (Below W7.heap.size W7 W10) := Lib.hid (HB7_9.out.trans ((hb : Below W9.heap.size W9 W10).mono HB7_9.out.size))
    have HB8_10 : Hid (Below W8.heap.size W8 W10) := Lib.hid (HB8_9.out.trans ((hb : Below W9.heap.size W9 W10).mono HB8_9.out.size))
    have HB9_10 : Hid (Below W9.heap.size W9 W10) := Lib.hid (hb)
    clear hb
    clear k9_0 k9_1 k9_2 k9_3 k3_0 k3_1 k3_2 k3_3 k13_0 k13_1 k13_2 k11_0 k11_1 k11_2
    obtain ⟨k7_0, k7_1, k7_2, k7_3⟩ := cells4 (HX7_3.out W10 HB3_10.out)
    go_wp2_with fail
    refine Calls.mono (right_is dp1 db1 ds1 dn1 HF1.out (come_of HD1.out).2.2.2.1 _) ?_
    rintro e11 W11 ⟨rfl, hb⟩
    have HBw11 : Hid (Below w.heap.size w W11) := Lib.hid (HBw10.out.trans ((hb : Below W10.heap.size W10 W11).mono HBw10.out.size))
    have HB0_11 : Hid (Below W0.heap.size W0 W11) := Lib.hid (HB0_10.out.trans ((hb : Below W10.heap.size W10 W11).mono HB0_10.out.size))
    have HB1_11 : Hid (Below W1.heap.size W1 W11) := Lib.hid (HB1_10.out.trans ((hb : Below W10.heap.size W10 W11).mono HB1_10.out.size))
    have HB2_11 : Hid (Below W2.heap.size W2 W11) := Lib.hid (HB2_10.out.trans ((hb : Below W10.heap.size W10 W11).mono HB2_10.out.size))
    have HB3_11 : Hid (Below W3.heap.size W3 W11) := Lib.hid (HB3_10.out.trans ((hb : Below W10.heap.size W10 W11).mono HB3_10.out.size))
    have HB4_11 : Hid (Below W4.heap.size W4 W11) := Lib.hid (HB4_10.out.trans ((hb : Below W10.heap.size W10 W11).mono HB4_10.out.size))
    have HB5_11 : Hid (Below W5.heap.size W5 W11) := Lib.hid (HB5_10.out.trans ((hb : Below W10.heap.size W10 W11).mono HB5_10.out.size))
    have HB6_11 : Hid (Below W6.heap.size W6 W11) := Lib.hid (HB6_10.out.trans ((hb : Below W10.heap.size W10 W11).mono HB6_10.out.size))
    have HB7_11 : Hid (Below W7.heap.size W7 W11) := Lib.hid (HB7_10.out.trans ((hb : Below W10.heap.size W10 W11).mono HB7_10.out.size))
    have HB8_11 : Hid (Below W8.heap.size W8 W11) := Lib.hid (HB8_10.out.trans ((hb : Below W10.heap.size W10 W11).mono HB8_10.out.size))
    have HB9_11 : Hid (Below W9.heap.size W9 W11) := Lib.hid (HB9_10.out.trans ((hb : Below W10.heap.size W10 W11).mono HB9_10.out.size))
    have HB10_11 : Hid (Below W10.heap.size W10 W11) := Lib.hid (hb)
    clear hb
    rcases eq_cases d 1 with ⟨HEz3, hez3, hfz3⟩ | ⟨HEz3, hez3, hfz3⟩
    · obtain rfl : d = 1 := HEz3.out
      have hk4 : (ds1 - dp1) = (cs - cp) := ((come_of HD1.out).2.2.2.2.1 rfl).1
      have hk4b : ((ds1 - dp1) == (cs - cp)) = true := by simpa using hk4
      have hk4c : ((ds1 - dp1) != (cs - cp)) = false := by simpa using hk4
      clear hk4
      obtain ⟨xo, HXO⟩ : ∃ x, Hid (order.open_ ⟨i, a, y, 1, q, p, f, ph, m, r, v, g⟩ = x) := ⟨_, Lib.hid rfl⟩
      have hwr : IntKind.i64.wrap ((dp1 + db1) - (cp + cb)) = (dp1 + db1) - (cp + cb) := IntWalk.i64_in _ (by have h0 := ((come_of HD1.out).2.2.2.2.1 rfl).2; rw [HXO.out] at h0; have h : (dp1 + db1) - (cp + cb) = xo := h0; have h2 := open_in HFO.out; rw [HXO.out] at h2; simp only [frame.inR] at h2; omega)
      have hk5 : ((dp1 + db1) - (cp + cb)) = xo := by have h := ((come_of HD1.out).2.2.2.2.1 rfl).2; rw [HXO.out] at h; exact h
      have hk5b : (((dp1 + db1) - (cp + cb)) == xo) = true := by simpa using hk5
      have hk5c : (((dp1 + db1) - (cp + cb)) != xo) = false := by simpa using hk5
      clear hk5
      clear k7_0 k7_1 k7_2 k7_3
      go_upto_region 11 with fail
      refine wp_region_held_drew (S := fun W => Below W11.heap.size W11 W) (by kernel_rfl) (Below.refl _ _).drew (fun _ => ?_)
      obtain ⟨W12, hW12⟩ : ∃ x, x = W11.drew := ⟨_, rfl⟩
      rw [← hW12]
      have HBw12 : Hid (Below w.heap.size w W12) := Lib.hid (HBw11.out.trans ((by rw [hW12]; exact (Below.refl _ _).drew : Below W11.heap.size W11 W12).mono HBw11.out.size))
      have HB0_12 : Hid (Below W0.heap.size W0 W12) := Lib.hid (HB0_11.out.trans ((by rw [hW12]; exact (Below.refl _ _).drew : Below W11.heap.size W11 W12).mono HB0_11.out.size))
      have HB1_12 : Hid (Below W1.heap.size W1 W12) := Lib.hid (HB1_11.out.trans ((by rw [hW12]; exact (Below.refl _ _).drew : Below W11.heap.size W11 W12).mono HB1_11.out.size))
      have HB2_12 : Hid (Below W2.heap.size W2 W12) := Lib.hid (HB2_11.out.trans ((by rw [hW12]; exact (Below.refl _ _).drew : Below W11.heap.size W11 W12).mono HB2_11.out.size))
      have HB3_12 : Hid (Below W3.heap.size W3 W12) := Lib.hid (HB3_11.out.trans ((by rw [hW12]; exact (Below.refl _ _).drew : Below W11.heap.size W11 W12).mono HB3_11.out.size))
      have HB4_12 : Hid (Below W4.heap.size W4 W12) := Lib.hid (HB4_11.out.trans ((by rw [hW12]; exact (Below.refl _ _).drew : Below W11.heap.size W11 W12).mono HB4_11.out.size))
      have HB5_12 : Hid (Below W5.heap.size W5 W12) := Lib.hid (HB5_11.out.trans ((by rw [hW12]; exact (Below.refl _ _).drew : Below W11.heap.size W11 W12).mono HB5_11.out.size))
      have HB6_12 : Hid (Below W6.heap.size W6 W12) := Lib.hid (HB6_11.out.trans ((by rw [hW12]; exact (Below.refl _ _).drew : Below W11.heap.size W11 W12).mono HB6_11.out.size))
      have HB7_12 : Hid (Below W7.heap.size W7 W12) := Lib.hid (HB7_11.out.trans ((by rw [hW12]; exact (Below.refl _ _).drew : Below W11.heap.size W11 W12).mono HB7_11.out.size))
      have HB8_12 : Hid (Below W8.heap.size W8 W12) := Lib.hid (HB8_11.out.trans ((by rw [hW12]; exact (Below.refl _ _).drew : Below W11.heap.size W11 W12).mono HB8_11.out.size))
      have HB9_12 : Hid (Below W9.heap.size W9 W12) := Lib.hid (HB9_11.out.trans ((by rw [hW12]; exact (Below.refl _ _).drew : Below W11.heap.size W11 W12).mono HB9_11.out.size))
      have HB10_12 : Hid (Below W10.heap.size W10 W12) := Lib.hid (HB10_11.out.trans ((by rw [hW12]; exact (Below.refl _ _).drew : Below W11.heap.size W11 W12).mono HB10_11.out.size))
      have HB11_12 : Hid (Below W11.heap.size W11 W12) := Lib.hid (by rw [hW12]; exact (Below.refl _ _).drew)
      clear hW12
      refine wpAnyH_take (i := 0) (v := .pointer (some ⟨w.heap.size + 1, 3, none⟩)) rfl (by kernel_rfl) (by kernel_rfl) (by kernel_rfl) (fun _ _ _ h => h) (Or.inl ⟨by kernel_rfl, ?h0⟩) HB11_12.out ?_
      case h0 => (intro WX hWX; go_simp)
      go_simp
      refine wpAnyH_take (i := 1) (v := .int .i64 1) rfl (by kernel_rfl) (by kernel_rfl) (by kernel_rfl) (fun _ _ _ h => h) (Or.inl ⟨by kernel_rfl, ?h1⟩) HB11_12.out ?_
      case h1 => (intro WX hWX; obtain ⟨y0, y1, y2, y3, y4, y5, y6, y7, y8, y9, y10, y11⟩ := order.cells12 (HX1_0.out WX (HB0_11.out.trans ((show Below W11.heap.size W11 WX from hWX).mono HB0_11.out.size))); go_simp)
      go_simp
      refine wpAnyH_take (i := 2) (v := .bool true) rfl (by kernel_rfl) (by kernel_rfl) (by kernel_rfl) (fun _ _ _ h => h) (Or.inl ⟨by kernel_rfl, ?h2⟩) HB11_12.out ?_
      case h2 => (intro WX hWX; go_simp)
      go_simp
      refine wpAnyH_take (i := 3) (v := .bool true) rfl (by kernel_rfl) (by kernel_rfl) (by kernel_rfl) (fun _ _ _ h => h) (Or.inl ⟨by kernel_rfl, ?h3⟩) HB11_12.out ?_
      case h3 => (intro WX hWX; go_simp)
      go_simp
      refine wpAnyH_take (i := 4) (v := .pointer (some ⟨W8.heap.size, 1, none⟩)) rfl (by kernel_rfl) (by kernel_rfl) (by kernel_rfl) (fun _ _ _ h => h) (Or.inl ⟨by kernel_rfl, ?h4⟩) HB11_12.out ?_
      case h4 => (intro WX hWX; go_simp)
      go_simp
      refine wpAnyH_take (i := 5) (v := .int .i64 (ds1 - dp1)) rfl (by kernel_rfl) (by kernel_rfl) (by kernel_rfl) (fun _ _ _ h => h) (Or.inl ⟨by kernel_rfl, ?h5⟩) HB11_12.out ?_
      case h5 => (intro WX hWX; obtain ⟨y0, y1, y2⟩ := cells3 (HX13_9.out WX (HB9_11.out.trans ((show Below W11.heap.size W11 WX from hWX).mono HB9_11.out.size))); go_simp)
      go_simp
      refine wpAnyH_take (i := 6) (v := .pointer (some ⟨W6.heap.size, 1, none⟩)) rfl (by kernel_rfl) (by kernel_rfl) (by kernel_rfl) (fun _ _ _ h => h) (Or.inl ⟨by kernel_rfl, ?h6⟩) HB11_12.out ?_
      case h6 => (intro WX hWX; go_simp)
      go_simp
      refine wpAnyH_take (i := 7) (v := .int .i64 (cs - cp)) rfl (by kernel_rfl) (by kernel_rfl) (by kernel_rfl) (fun _ _ _ h => h) (Or.inl ⟨by kernel_rfl, ?h7⟩) HB11_12.out ?_
      case h7 => (intro WX hWX; obtain ⟨y0, y1, y2⟩ := cells3 (HX11_7.out WX (HB7_11.out.trans ((show Below W11.heap.size W11 WX from hWX).mono HB7_11.out.size))); go_simp)
      go_simp
      refine wpAnyH_take (i := 8) (v := .bool false) rfl (by kernel_rfl) (by kernel_rfl) (by kernel_rfl) (fun _ _ _ h => h) (Or.inl ⟨by kernel_rfl, ?h8⟩) HB11_12.out ?_
      case h8 => (intro WX hWX; go_simp)
      go_simp
      refine wpAnyH_take (i := 9) (v := .bool false) rfl (by kernel_rfl) (by kernel_rfl) (by kernel_rfl) (fun _ _ _ h => h) (Or.inl ⟨by kernel_rfl, ?h9⟩) HB11_12.out ?_
      case h9 => (intro WX hWX; go_simp)
      go_simp
      refine wpAnyH_take (i := 10) (v := .pointer (some ⟨W8.heap.size, 0, none⟩)) rfl (by kernel_rfl) (by kernel_rfl) (by kernel_rfl) (fun _ _ _ h => h) (Or.inl ⟨by kernel_rfl, ?h10⟩) HB11_12.out ?_
      case h10 => (intro WX hWX; go_simp)
      go_simp
      refine wpAnyH_take (i := 11) (v := .int .i64 (dp1 + db1)) rfl (by kernel_rfl) (by kernel_rfl) (by kernel_rfl) (fun _ _ _ h => h) (Or.inl ⟨by kernel_rfl, ?h11⟩) HB11_12.out ?_
      case h11 => (intro WX hWX; obtain ⟨y0, y1, y2⟩ := cells3 (HX13_9.out WX (HB9_11.out.trans ((show Below W11.heap.size W11 WX from hWX).mono HB9_11.out.size))); go_simp)
      go_simp
      refine wpAnyH_take (i := 12) (v := .pointer (some ⟨W6.heap.size, 0, none⟩)) rfl (by kernel_rfl) (by kernel_rfl) (by kernel_rfl) (fun _ _ _ h => h) (Or.inl ⟨by kernel_rfl, ?h12⟩) HB11_12.out ?_
      case h12 => (intro WX hWX; go_simp)
      go_simp
      refine wpAnyH_take (i := 13) (v := .int .i64 (cp + cb)) rfl (by kernel_rfl) (by kernel_rfl) (by kernel_rfl) (fun _ _ _ h => h) (Or.inl ⟨by kernel_rfl, ?h13⟩) HB11_12.out ?_
      case h13 => (intro WX hWX; obtain ⟨y0, y1, y2⟩ := cells3 (HX11_7.out WX (HB7_11.out.trans ((show Below W11.heap.size W11 WX from hWX).mono HB7_11.out.size))); go_simp)
      go_simp
      refine wpAnyH_take (i := 14) (v := .int .i64 ((dp1 + db1) - (cp + cb))) rfl (by kernel_rfl) (by kernel_rfl) (by kernel_rfl) (fun _ _ _ h => h) (Or.inl ⟨by kernel_rfl, ?h14⟩) HB11_12.out ?_
      case h14 => (intro WX hWX; go_simp)
      go_simp
      refine wpAnyH_take (i := 15) (v := .agg #[.int .i64 i, .int .i64 a, .int .i64 y, .int .i64 1, .int .i64 q, .int .i64 p, .int .i64 f, .int .i64 ph, .int .i64 m, .int .i64 r, .int .i64 v, .bool g]) rfl (by kernel_rfl) (by kernel_rfl) (by kernel_rfl) (fun _ _ _ h => h) (Or.inl ⟨by kernel_rfl, ?h15⟩) HB11_12.out ?_
      case h15 => (intro WX hWX; obtain ⟨y0, y1, y2, y3, y4, y5, y6, y7, y8, y9, y10, y11⟩ := order.cells12 (HX1_0.out WX (HB0_11.out.trans ((show Below W11.heap.size W11 WX from hWX).mono HB0_11.out.size))); go_simp)
      go_simp
      refine wpAnyH_ready (rs := [16]) (by kernel_rfl) (by simp) ?_
      refine AllReadyH.cons rfl (fun K hK => ?_) AllReadyH.nil
      go_simp
      go_wp2_with (refine Calls.mono (order.open_is i a y 1 q p f ph m r v g HFO.out HXO.out _) ?_; rintro e13 W13 ⟨rfl, hb⟩)
      have HBw13 : Hid (Below w.heap.size w W13) := Lib.hid (HBw12.out.trans ((hb : Below W12.heap.size W12 W13).mono HBw12.out.size))
      have HB0_13 : Hid (Below W0.heap.size W0 W13) := Lib.hid (HB0_12.out.trans ((hb : Below W12.heap.size W12 W13).mono HB0_12.out.size))
      have HB1_13 : Hid (Below W1.heap.size W1 W13) := Lib.hid (HB1_12.out.trans ((hb : Below W12.heap.size W12 W13).mono HB1_12.out.size))
      have HB2_13 : Hid (Below W2.heap.size W2 W13) := Lib.hid (HB2_12.out.trans ((hb : Below W12.heap.size W12 W13).mono HB2_12.out.size))
      have HB3_13 : Hid (Below W3.heap.size W3 W13) := Lib.hid (HB3_12.out.trans ((hb : Below W12.heap.size W12 W13).mono HB3_12.out.size))
      have HB4_13 : Hid (Below W4.heap.size W4 W13) := Lib.hid (HB4_12.out.trans ((hb : Below W12.heap.size W12 W13).mono HB4_12.out.size))
      have HB5_13 : Hid (Below W5.heap.size W5 W13) := Lib.hid (HB5_12.out.trans ((hb : Below W12.heap.size W12 W13).mono HB5_12.out.size))
      have HB6_13 : Hid (Below W6.heap.size W6 W13) := Lib.hid (HB6_12.out.trans ((hb : Below W12.heap.size W12 W13).mono HB6_12.out.size))
      have HB7_13 : Hid (Below W7.heap.size W7 W13) := Lib.hid (HB7_12.out.trans ((hb : Below W12.heap.size W12 W13).mono HB7_12.out.size))
      have HB8_13 : Hid (Below W8.heap.size W8 W13) := Lib.hid (HB8_12.out.trans ((hb : Below W12.heap.size W12 W13).mono HB8_12.out.size))
      have HB9_13 : Hid (Below W9.heap.size W9 W13) := Lib.hid (HB9_12.out.trans ((hb : Below W12.heap.size W12 W13).mono HB9_12.out.size))
      have HB10_13 : Hid (Below W10.heap.size W10 W13) := Lib.hid (HB10_12.out.trans ((hb : Below W12.heap.size W12 W13).mono HB10_12.out.size))
      have HB11_13 : Hid (Below W11.heap.size W11 W13) := Lib.hid (HB11_12.out.trans ((hb : Below W12.heap.size W12 W13).mono HB11_12.out.size))
      have HB12_13 : Hid (Below W12.heap.size W12 W13) := Lib.hid (hb)
      clear hb
      refine hK.out _ _ HB11_13.out (fun _ => ?_)
      clear hK K
      go_simp
      refine wpAnyH_take (i := 17) (v := .bool false) rfl (by kernel_rfl) (by kernel_rfl) (by kernel_rfl) (fun _ _ _ h => h) (Or.inl ⟨by kernel_rfl, ?h17⟩) HB11_13.out ?_
      case h17 => (intro WX hWX; go_simp)
      go_simp
      refine wpAnyH_take (i := 18) (v := .bool false) rfl (by kernel_rfl) (by kernel_rfl) (by kernel_rfl) (fun _ _ _ h => h) (Or.inl ⟨by kernel_rfl, ?h18⟩) HB11_13.out ?_
      case h18 => (intro WX hWX; go_simp)
      go_simp
      refine wpAnyH_take (i := 19) (v := .bool false) rfl (by kernel_rfl) (by kernel_rfl) (by kernel_rfl) (fun _ _ _ h => h) (Or.inl ⟨by kernel_rfl, ?h19⟩) HB11_13.out ?_
      case h19 => (intro WX hWX; go_simp)
      go_simp
      refine wpAnyH_take (i := 20) (v := .bool false) rfl (by kernel_rfl) (by kernel_rfl) (by kernel_rfl) (fun _ _ _ h => h) (Or.inl ⟨by kernel_rfl, ?h20⟩) HB11_13.out ?_
      case h20 => (intro WX hWX; go_simp)
      go_simp
      refine wpAnyH_take (i := 21) (v := .pointer (some ⟨w.heap.size + 1, 3, none⟩)) rfl (by kernel_rfl) (by kernel_rfl) (by kernel_rfl) (fun _ _ _ h => h) (Or.inl ⟨by kernel_rfl, ?h21⟩) HB11_13.out ?_
      case h21 => (intro WX hWX; go_simp)
      go_simp
      refine wpAnyH_take (i := 22) (v := .int .i64 1) rfl (by kernel_rfl) (by kernel_rfl) (by kernel_rfl) (fun _ _ _ h => h) (Or.inl ⟨by kernel_rfl, ?h22⟩) HB11_13.out ?_
      case h22 => (intro WX hWX; obtain ⟨y0, y1, y2, y3, y4, y5, y6, y7, y8, y9, y10, y11⟩ := order.cells12 (HX1_0.out WX (HB0_11.out.trans ((show Below W11.heap.size W11 WX from hWX).mono HB0_11.out.size))); go_simp)
      go_simp
      refine wpAnyH_take (i := 23) (v := .bool false) rfl (by kernel_rfl) (by kernel_rfl) (by kernel_rfl) (fun _ _ _ h => h) (Or.inl ⟨by kernel_rfl, ?h23⟩) HB11_13.out ?_
      case h23 => (intro WX hWX; go_simp)
      go_simp
      refine wpAnyH_take (i := 24) (v := .bool false) rfl (by kernel_rfl) (by kernel_rfl) (by kernel_rfl) (fun _ _ _ h => h) (Or.inl ⟨by kernel_rfl, ?h24⟩) HB11_13.out ?_
      case h24 => (intro WX hWX; go_simp)
      go_simp
      refine wpAnyH_take (i := 25) (v := undef) rfl (by kernel_rfl) (by kernel_rfl) (by kernel_rfl) (fun _ _ _ h => h) (Or.inr ⟨by kernel_rfl, rfl⟩) HB11_13.out ?_
      go_simp
      refine wpAnyH_take (i := 26) (v := undef) rfl (by kernel_rfl) (by kernel_rfl) (by kernel_rfl) (fun _ _ _ h => h) (Or.inr ⟨by kernel_rfl, rfl⟩) HB11_13.out ?_
      go_simp
      refine wpAnyH_take (i := 27) (v := undef) rfl (by kernel_rfl) (by kernel_rfl) (by kernel_rfl) (fun _ _ _ h => h) (Or.inr ⟨by kernel_rfl, rfl⟩) HB11_13.out ?_
      go_simp
      refine wpAnyH_take (i := 28) (v := undef) rfl (by kernel_rfl) (by kernel_rfl) (by kernel_rfl) (fun _ _ _ h => h) (Or.inr ⟨by kernel_rfl, rfl⟩) HB11_13.out ?_
      go_simp
      refine wpAnyH_take (i := 29) (v := undef) rfl (by kernel_rfl) (by kernel_rfl) (by kernel_rfl) (fun _ _ _ h => h) (Or.inr ⟨by kernel_rfl, rfl⟩) HB11_13.out ?_
      go_simp
      refine wpAnyH_take (i := 30) (v := undef) rfl (by kernel_rfl) (by kernel_rfl) (by kernel_rfl) (fun _ _ _ h => h) (Or.inr ⟨by kernel_rfl, rfl⟩) HB11_13.out ?_
      go_simp
      refine wpAnyH_take (i := 31) (v := undef) rfl (by kernel_rfl) (by kernel_rfl) (by kernel_rfl) (fun _ _ _ h => h) (Or.inr ⟨by kernel_rfl, rfl⟩) HB11_13.out ?_
      go_simp
      refine wpAnyH_take (i := 32) (v := undef) rfl (by kernel_rfl) (by kernel_rfl) (by kernel_rfl) (fun _ _ _ h => h) (Or.inr ⟨by kernel_rfl, rfl⟩) HB11_13.out ?_
      go_simp
      refine wpAnyH_take (i := 33) (v := undef) rfl (by kernel_rfl) (by kernel_rfl) (by kernel_rfl) (fun _ _ _ h => h) (Or.inr ⟨by kernel_rfl, rfl⟩) HB11_13.out ?_
      go_simp
      refine wpAnyH_take (i := 34) (v := undef) rfl (by kernel_rfl) (by kernel_rfl) (by kernel_rfl) (fun _ _ _ h => h) (Or.inr ⟨by kernel_rfl, rfl⟩) HB11_13.out ?_
      go_simp
      refine wpAnyH_take (i := 35) (v := undef) rfl (by kernel_rfl) (by kernel_rfl) (by kernel_rfl) (fun _ _ _ h => h) (Or.inr ⟨by kernel_rfl, rfl⟩) HB11_13.out ?_
      go_simp
      refine wpAnyH_take (i := 36) (v := undef) rfl (by kernel_rfl) (by kernel_rfl) (by kernel_rfl) (fun _ _ _ h => h) (Or.inr ⟨by kernel_rfl, rfl⟩) HB11_13.out ?_
      go_simp
      refine wpAnyH_take (i := 37) (v := undef) rfl (by kernel_rfl) (by kernel_rfl) (by kernel_rfl) (fun _ _ _ h => h) (Or.inr ⟨by kernel_rfl, rfl⟩) HB11_13.out ?_
      go_simp
      refine wpAnyH_take (i := 38) (v := undef) rfl (by kernel_rfl) (by kernel_rfl) (by kernel_rfl) (fun _ _ _ h => h) (Or.inr ⟨by kernel_rfl, rfl⟩) HB11_13.out ?_
      go_simp
      refine wpAnyH_take (i := 39) (v := undef) rfl (by kernel_rfl) (by kernel_rfl) (by kernel_rfl) (fun _ _ _ h => h) (Or.inr ⟨by kernel_rfl, rfl⟩) HB11_13.out ?_
      go_simp
      refine wpAnyH_take (i := 40) (v := .bool false) rfl (by kernel_rfl) (by kernel_rfl) (by kernel_rfl) (fun _ _ _ h => h) (Or.inl ⟨by kernel_rfl, ?h40⟩) HB11_13.out ?_
      case h40 => (intro WX hWX; go_simp)
      go_simp
      refine wpAnyH_take (i := 41) (v := .bool false) rfl (by kernel_rfl) (by kernel_rfl) (by kernel_rfl) (fun _ _ _ h => h) (Or.inl ⟨by kernel_rfl, ?h41⟩) HB11_13.out ?_
      case h41 => (intro WX hWX; go_simp)
      go_simp
      refine wpAnyH_done (by kernel_rfl) ?_ _
      obtain ⟨⟨⟨dp2, db2, ds2, dn2⟩, e2⟩, hh⟩ : ∃ x, come ⟨dp1, db1, ds1, dn1⟩ ⟨iP, aP, yP, dP, qP, pP, fP, phP, mP, rP, vP, gP⟩ = x := ⟨_, rfl⟩
      have HD2 := Lib.hid hh
      have HF2 : Hid ((⟨dp2, db2, ds2, dn2⟩ : Ce).fine) := Lib.hid (come_fine HF1.out hh)
      clear hh
      obtain ⟨k7_0, k7_1, k7_2, k7_3⟩ := cells4 (HX7_3.out W13 HB3_13.out)
      obtain ⟨k5_0, k5_1, k5_2, k5_3, k5_4, k5_5, k5_6, k5_7, k5_8, k5_9, k5_10, k5_11⟩ := order.cells12 (HX2_0.out W13 HB0_13.out)
      go_wp2_with fail
      refine Calls.mono (come_is dp1 db1 ds1 dn1 iP aP yP dP qP pP fP phP mP rP vP gP HF1.out HFP.out HD2.out _) ?_
      rintro e14 W14 ⟨rfl, hb⟩
      have HBw14 : Hid (Below w.heap.size w W14) := Lib.hid (HBw13.out.trans ((hb : Below W13.heap.size W13 W14).mono HBw13.out.size))
      have HB0_14 : Hid (Below W0.heap.size W0 W14) := Lib.hid (HB0_13.out.trans ((hb : Below W13.heap.size W13 W14).mono HB0_13.out.size))
      have HB1_14 : Hid (Below W1.heap.size W1 W14) := Lib.hid (HB1_13.out.trans ((hb : Below W13.heap.size W13 W14).mono HB1_13.out.size))
      have HB2_14 : Hid (Below W2.heap.size W2 W14) := Lib.hid (HB2_13.out.trans ((hb : Below W13.heap.size W13 W14).mono HB2_13.out.size))
      have HB3_14 : Hid (Below W3.heap.size W3 W14) := Lib.hid (HB3_13.out.trans ((hb : Below W13.heap.size W13 W14).mono HB3_13.out.size))
      have HB4_14 : Hid (Below W4.heap.size W4 W14) := Lib.hid (HB4_13.out.trans ((hb : Below W13.heap.size W13 W14).mono HB4_13.out.size))
      have HB5_14 : Hid (Below W5.heap.size W5 W14) := Lib.hid (HB5_13.out.trans ((hb : Below W13.heap.size W13 W14).mono HB5_13.out.size))
      have HB6_14 : Hid (Below W6.heap.size W6 W14) := Lib.hid (HB6_13.out.trans ((hb : Below W13.heap.size W13 W14).mono HB6_13.out.size))
      have HB7_14 : Hid (Below W7.heap.size W7 W14) := Lib.hid (HB7_13.out.trans ((hb : Below W13.heap.size W13 W14).mono HB7_13.out.size))
      have HB8_14 : Hid (Below W8.heap.size W8 W14) := Lib.hid (HB8_13.out.trans ((hb : Below W13.heap.size W13 W14).mono HB8_13.out.size))
      have HB9_14 : Hid (Below W9.heap.size W9 W14) := Lib.hid (HB9_13.out.trans ((hb : Below W13.heap.size W13 W14).mono HB9_13.out.size))
      have HB10_14 : Hid (Below W10.heap.size W10 W14) := Lib.hid (HB10_13.out.trans ((hb : Below W13.heap.size W13 W14).mono HB10_13.out.size))
      have HB11_14 : Hid (Below W11.heap.size W11 W14) := Lib.hid (HB11_13.out.trans ((hb : Below W13.heap.size W13 W14).mono HB11_13.out.size))
      have HB12_14 : Hid (Below W12.heap.size W12 W14) := Lib.hid (HB12_13.out.trans ((hb : Below W13.heap.size W13 W14).mono HB12_13.out.size))
      have HB13_14 : Hid (Below W13.heap.size W13 W14) := Lib.hid (hb)
      clear hb
      clear k7_0 k7_1 k7_2 k7_3 k5_0 k5_1 k5_2 k5_3 k5_4 k5_5 k5_6 k5_7 k5_8 k5_9 k5_10 k5_11
      go_upto_region 14 with fail
      obtain ⟨W15, HW15⟩ : ∃ W, Hid ((W14.alloc (.cells #[.int .i64 dp2, .int .i64 db2, .int .i64 ds2, .int .i64 dn2] 23)) = W) := ⟨_, Lib.hid rfl⟩
      have NE_15_15_3 : Hid (w.heap.size ≠ W14.heap.size) := Lib.hid (Nat.ne_of_lt (Array.getElem?_eq_some_iff.1 (HX0_0.out W14 HB0_14.out)).1)
      have NE_15_15_4 : Hid (w.heap.size + 1 ≠ W14.heap.size) := Lib.hid (Nat.ne_of_lt (Array.getElem?_eq_some_iff.1 (HX1_0.out W14 HB0_14.out)).1)
      have NE_15_15_5 : Hid (w.heap.size + 1 + 1 ≠ W14.heap.size) := Lib.hid (Nat.ne_of_lt (Array.getElem?_eq_some_iff.1 (HX2_0.out W14 HB0_14.out)).1)
      have NE_15_15_7 : Hid (W2.heap.size ≠ W14.heap.size) := Lib.hid (Nat.ne_of_lt (Array.getElem?_eq_some_iff.1 (HX7_3.out W14 HB3_14.out)).1)
      have NE_15_15_9 : Hid (W4.heap.size ≠ W14.heap.size) := Lib.hid (Nat.ne_of_lt (Array.getElem?_eq_some_iff.1 (HX9_5.out W14 HB5_14.out)).1)
      have NE_15_15_11 : Hid (W6.heap.size ≠ W14.heap.size) := Lib.hid (Nat.ne_of_lt (Array.getElem?_eq_some_iff.1 (HX11_7.out W14 HB7_14.out)).1)
      have NE_15_15_13 : Hid (W8.heap.size ≠ W14.heap.size) := Lib.hid (Nat.ne_of_lt (Array.getElem?_eq_some_iff.1 (HX13_9.out W14 HB9_14.out)).1)
      have LE_15 : Hid (w.heap.size ≤ W14.heap.size) := Lib.hid HBw14.out.size
      have HBw15 : Hid (Below w.heap.size w W15) := Lib.hid (HBw14.out.trans ((by rw [← HW15.out]; exact (Below.refl _ _).alloc (Nat.le_refl _) _ : Below W14.heap.size W14 W15).mono HBw14.out.size))
      have HB0_15 : Hid (Below W0.heap.size W0 W15) := Lib.hid (HB0_14.out.trans ((by rw [← HW15.out]; exact (Below.refl _ _).alloc (Nat.le_refl _) _ : Below W14.heap.size W14 W15).mono HB0_14.out.size))
      have HB1_15 : Hid (Below W1.heap.size W1 W15) := Lib.hid (HB1_14.out.trans ((by rw [← HW15.out]; exact (Below.refl _ _).alloc (Nat.le_refl _) _ : Below W14.heap.size W14 W15).mono HB1_14.out.size))
      have HB2_15 : Hid (Below W2.heap.size W2 W15) := Lib.hid (HB2_14.out.trans ((by rw [← HW15.out]; exact (Below.refl _ _).alloc (Nat.le_refl _) _ : Below W14.heap.size W14 W15).mono HB2_14.out.size))
      have HB3_15 : Hid (Below W3.heap.size W3 W15) := Lib.hid (HB3_14.out.trans ((by rw [← HW15.out]; exact (Below.refl _ _).alloc (Nat.le_refl _) _ : Below W14.heap.size W14 W15).mono HB3_14.out.size))
      have HB4_15 : Hid (Below W4.heap.size W4 W15) := Lib.hid (HB4_14.out.trans ((by rw [← HW15.out]; exact (Below.refl _ _).alloc (Nat.le_refl _) _ : Below W14.heap.size W14 W15).mono HB4_14.out.size))
      have HB5_15 : Hid (Below W5.heap.size W5 W15) := Lib.hid (HB5_14.out.trans ((by rw [← HW15.out]; exact (Below.refl _ _).alloc (Nat.le_refl _) _ : Below W14.heap.size W14 W15).mono HB5_14.out.size))
      have HB6_15 : Hid (Below W6.heap.size W6 W15) := Lib.hid (HB6_14.out.trans ((by rw [← HW15.out]; exact (Below.refl _ _).alloc (Nat.le_refl _) _ : Below W14.heap.size W14 W15).mono HB6_14.out.size))
      have HB7_15 : Hid (Below W7.heap.size W7 W15) := Lib.hid (HB7_14.out.trans ((by rw [← HW15.out]; exact (Below.refl _ _).alloc (Nat.le_refl _) _ : Below W14.heap.size W14 W15).mono HB7_14.out.size))
      have HB8_15 : Hid (Below W8.heap.size W8 W15) := Lib.hid (HB8_14.out.trans ((by rw [← HW15.out]; exact (Below.refl _ _).alloc (Nat.le_refl _) _ : Below W14.heap.size W14 W15).mono HB8_14.out.size))
      have HB9_15 : Hid (Below W9.heap.size W9 W15) := Lib.hid (HB9_14.out.trans ((by rw [← HW15.out]; exact (Below.refl _ _).alloc (Nat.le_refl _) _ : Below W14.heap.size W14 W15).mono HB9_14.out.size))
      have HB10_15 : Hid (Below W10.heap.size W10 W15) := Lib.hid (HB10_14.out.trans ((by rw [← HW15.out]; exact (Below.refl _ _).alloc (Nat.le_refl _) _ : Below W14.heap.size W14 W15).mono HB10_14.out.size))
      have HB11_15 : Hid (Below W11.heap.size W11 W15) := Lib.hid (HB11_14.out.trans ((by rw [← HW15.out]; exact (Below.refl _ _).alloc (Nat.le_refl _) _ : Below W14.heap.size W14 W15).mono HB11_14.out.size))
      have HB12_15 : Hid (Below W12.heap.size W12 W15) := Lib.hid (HB12_14.out.trans ((by rw [← HW15.out]; exact (Below.refl _ _).alloc (Nat.le_refl _) _ : Below W14.heap.size W14 W15).mono HB12_14.out.size))
      have HB13_15 : Hid (Below W13.heap.size W13 W15) := Lib.hid (HB13_14.out.trans ((by rw [← HW15.out]; exact (Below.refl _ _).alloc (Nat.le_refl _) _ : Below W14.heap.size W14 W15).mono HB13_14.out.size))
      have HB14_15 : Hid (Below W14.heap.size W14 W15) := Lib.hid (by rw [← HW15.out]; exact (Below.refl _ _).alloc (Nat.le_refl _) _)
      have HX15_15 : Hid (∀ W, Below W15.heap.size W15 W → W.heap[W14.heap.size]? = some (.cells #[.int .i64 dp2, .int .i64 db2, .int .i64 ds2, .int .i64 dn2] 23 (0, 0))) := Lib.hid (fun W hb => (hb.block _ (by rw [← HW15.out]; simp)).trans (by rw [← HW15.out]; exact heap_alloc_new _ _))
      rw [HW15.out]
      obtain ⟨⟨⟨dp3, db3, ds3, dn3⟩, e3⟩, hh⟩ : ∃ x, come ⟨cp, cb, cs, cn⟩ ⟨iP, aP, yP, dP, qP, pP, fP, phP, mP, rP, vP, gP⟩ = x := ⟨_, rfl⟩
      have HD3 := Lib.hid hh
      have HF3 : Hid ((⟨dp3, db3, ds3, dn3⟩ : Ce).fine) := Lib.hid (come_fine HF.out hh)
      clear hh
      obtain ⟨k3_0, k3_1, k3_2, k3_3⟩ := cells4 (HX0_0.out W15 HB0_15.out)
      obtain ⟨k5_0, k5_1, k5_2, k5_3, k5_4, k5_5, k5_6, k5_7, k5_8, k5_9, k5_10, k5_11⟩ := order.cells12 (HX2_0.out W15 HB0_15.out)
      go_wp2_with fail
      refine Calls.mono (come_is cp cb cs cn iP aP yP dP qP pP fP phP mP rP vP gP HF.out HFP.out HD3.out _) ?_
      rintro e16 W16 ⟨rfl, hb⟩
      have HBw16 : Hid (Below w.heap.size w W16) := Lib.hid (HBw15.out.trans ((hb : Below W15.heap.size W15 W16).mono HBw15.out.size))
      have HB0_16 : Hid (Below W0.heap.size W0 W16) := Lib.hid (HB0_15.out.trans ((hb : Below W15.heap.size W15 W16).mono HB0_15.out.size))
      have HB1_16 : Hid (Below W1.heap.size W1 W16) := Lib.hid (HB1_15.out.trans ((hb : Below W15.heap.size W15 W16).mono HB1_15.out.size))
      have HB2_16 : Hid (Below W2.heap.size W2 W16) := Lib.hid (HB2_15.out.trans ((hb : Below W15.heap.size W15 W16).mono HB2_15.out.size))
      have HB3_16 : Hid (Below W3.heap.size W3 W16) := Lib.hid (HB3_15.out.trans ((hb : Below W15.heap.size W15 W16).mono HB3_15.out.size))
      have HB4_16 : Hid (Below W4.heap.size W4 W16) := Lib.hid (HB4_15.out.trans ((hb : Below W15.heap.size W15 W16).mono HB4_15.out.size))
      have HB5_16 : Hid (Below W5.heap.size W5 W16) := Lib.hid (HB5_15.out.trans ((hb : Below W15.heap.size W15 W16).mono HB5_15.out.size))
      have HB6_16 : Hid (Below W6.heap.size W6 W16) := Lib.hid (HB6_15.out.trans ((hb : Below W15.heap.size W15 W16).mono HB6_15.out.size))
      have HB7_16 : Hid (Below W7.heap.size W7 W16) := Lib.hid (HB7_15.out.trans ((hb : Below W15.heap.size W15 W16).mono HB7_15.out.size))
      have HB8_16 : Hid (Below W8.heap.size W8 W16) := Lib.hid (HB8_15.out.trans ((hb : Below W15.heap.size W15 W16).mono HB8_15.out.size))
      have HB9_16 : Hid (Below W9.heap.size W9 W16) := Lib.hid (HB9_15.out.trans ((hb : Below W15.heap.size W15 W16).mono HB9_15.out.size))
      have HB10_16 : Hid (Below W10.heap.size W10 W16) := Lib.hid (HB10_15.out.trans ((hb : Below W15.heap.size W15 W16).mono HB10_15.out.size))
      have HB11_16 : Hid (Below W11.heap.size W11 W16) := Lib.hid (HB11_15.out.trans ((hb : Below W15.heap.size W15 W16).mono HB11_15.out.size))
      have HB12_16 : Hid (Below W12.heap.size W12 W16) := Lib.hid (HB12_15.out.trans ((hb : Below W15.heap.size W15 W16).mono HB12_15.out.size))
      have HB13_16 : Hid (Below W13.heap.size W13 W16) := Lib.hid (HB13_15.out.trans ((hb : Below W15.heap.size W15 W16).mono HB13_15.out.size))
      have HB14_16 : Hid (Below W14.heap.size W14 W16) := Lib.hid (HB14_15.out.trans ((hb : Below W15.heap.size W15 W16).mono HB14_15.out.size))
      have HB15_16 : Hid (Below W15.heap.size W15 W16) := Lib.hid (hb)
      clear hb
      clear k3_0 k3_1 k3_2 k3_3 k5_0 k5_1 k5_2 k5_3 k5_4 k5_5 k5_6 k5_7 k5_8 k5_9 k5_10 k5_11
      go_upto_region 15 with fail
      obtain ⟨W17, HW17⟩ : ∃ W, Hid ((W16.alloc (.cells #[.int .i64 dp3, .int .i64 db3, .int .i64 ds3, .int .i64 dn3] 23)) = W) := ⟨_, Lib.hid rfl⟩
      have NE_17_17_3 : Hid (w.heap.size ≠ W16.heap.size) := Lib.hid (Nat.ne_of_lt (Array.getElem?_eq_some_iff.1 (HX0_0.out W16 HB0_16.out)).1)
      have NE_17_17_4 : Hid (w.heap.size + 1 ≠ W16.heap.size) := Lib.hid (Nat.ne_of_lt (Array.getElem?_eq_some_iff.1 (HX1_0.out W16 HB0_16.out)).1)
      have NE_17_17_5 : Hid (w.heap.size + 1 + 1 ≠ W16.heap.size) := Lib.hid (Nat.ne_of_lt (Array.getElem?_eq_some_iff.1 (HX2_0.out W16 HB0_16.out)).1)
      have NE_17_17_7 : Hid (W2.heap.size ≠ W16.heap.size) := Lib.hid (Nat.ne_of_lt (Array.getElem?_eq_some_iff.1 (HX7_3.out W16 HB3_16.out)).1)
      have NE_17_17_9 : Hid (W4.heap.size ≠ W16.heap.size) := Lib.hid (Nat.ne_of_lt (Array.getElem?_eq_some_iff.1 (HX9_5.out W16 HB5_16.out)).1)
      have NE_17_17_11 : Hid (W6.heap.size ≠ W16.heap.size) := Lib.hid (Nat.ne_of_lt (Array.getElem?_eq_some_iff.1 (HX11_7.out W16 HB7_16.out)).1)
      have NE_17_17_13 : Hid (W8.heap.size ≠ W16.heap.size) := Lib.hid (Nat.ne_of_lt (Array.getElem?_eq_some_iff.1 (HX13_9.out W16 HB9_16.out)).1)
      have NE_17_17_15 : Hid (W14.heap.size ≠ W16.heap.size) := Lib.hid (Nat.ne_of_lt (Array.getElem?_eq_some_iff.1 (HX15_15.out W16 HB15_16.out)).1)
      have LE_17 : Hid (w.heap.size ≤ W16.heap.size) := Lib.hid HBw16.out.size
      have HBw17 : Hid (Below w.heap.size w W17) := Lib.hid (HBw16.out.trans ((by rw [← HW17.out]; exact (Below.refl _ _).alloc (Nat.le_refl _) _ : Below W16.heap.size W16 W17).mono HBw16.out.size))
      have HB0_17 : Hid (Below W0.heap.size W0 W17) := Lib.hid (HB0_16.out.trans ((by rw [← HW17.out]; exact (Below.refl _ _).alloc (Nat.le_refl _) _ : Below W16.heap.size W16 W17).mono HB0_16.out.size))
      have HB1_17 : Hid (Below W1.heap.size W1 W17) := Lib.hid (HB1_16.out.trans ((by rw [← HW17.out]; exact (Below.refl _ _).alloc (Nat.le_refl _) _ : Below W16.heap.size W16 W17).mono HB1_16.out.size))
      have HB2_17 : Hid (Below W2.heap.size W2 W17) := Lib.hid (HB2_16.out.trans ((by rw [← HW17.out]; exact (Below.refl _ _).alloc (Nat.le_refl _) _ : Below W16.heap.size W16 W17).mono HB2_16.out.size))
      have HB3_17 : Hid (Below W3.heap.size W3 W17) := Lib.hid (HB3_16.out.trans ((by rw [← HW17.out]; exact (Below.refl _ _).alloc (Nat.le_refl _) _ : Below W16.heap.size W16 W17).mono HB3_16.out.size))
      have HB4_17 : Hid (Below W4.heap.size W4 W17) := Lib.hid (HB4_16.out.trans ((by rw [← HW17.out]; exact (Below.refl _ _).alloc (Nat.le_refl _) _ : Below W16.heap.size W16 W17).mono HB4_16.out.size))
      have HB5_17 : Hid (Below W5.heap.size W5 W17) := Lib.hid (HB5_16.out.trans ((by rw [← HW17.out]; exact (Below.refl _ _).alloc (Nat.le_refl _) _ : Below W16.heap.size W16 W17).mono HB5_16.out.size))
      have HB6_17 : Hid (Below W6.heap.size W6 W17) := Lib.hid (HB6_16.out.trans ((by rw [← HW17.out]; exact (Below.refl _ _).alloc (Nat.le_refl _) _ : Below W16.heap.size W16 W17).mono HB6_16.out.size))
      have HB7_17 : Hid (Below W7.heap.size W7 W17) := Lib.hid (HB7_16.out.trans ((by rw [← HW17.out]; exact (Below.refl _ _).alloc (Nat.le_refl _) _ : Below W16.heap.size W16 W17).mono HB7_16.out.size))
      have HB8_17 : Hid (Below W8.heap.size W8 W17) := Lib.hid (HB8_16.out.trans ((by rw [← HW17.out]; exact (Below.refl _ _).alloc (Nat.le_refl _) _ : Below W16.heap.size W16 W17).mono HB8_16.out.size))
      have HB9_17 : Hid (Below W9.heap.size W9 W17) := Lib.hid (HB9_16.out.trans ((by rw [← HW17.out]; exact (Below.refl _ _).alloc (Nat.le_refl _) _ : Below W16.heap.size W16 W17).mono HB9_16.out.size))
      have HB10_17 : Hid (Below W10.heap.size W10 W17) := Lib.hid (HB10_16.out.trans ((by rw [← HW17.out]; exact (Below.refl _ _).alloc (Nat.le_refl _) _ : Below W16.heap.size W16 W17).mono HB10_16.out.size))
      have HB11_17 : Hid (Below W11.heap.size W11 W17) := Lib.hid (HB11_16.out.trans ((by rw [← HW17.out]; exact (Below.refl _ _).alloc (Nat.le_refl _) _ : Below W16.heap.size W16 W17).mono HB11_16.out.size))
      have HB12_17 : Hid (Below W12.heap.size W12 W17) := Lib.hid (HB12_16.out.trans ((by rw [← HW17.out]; exact (Below.refl _ _).alloc (Nat.le_refl _) _ : Below W16.heap.size W16 W17).mono HB12_16.out.size))
      have HB13_17 : Hid (Below W13.heap.size W13 W17) := Lib.hid (HB13_16.out.trans ((by rw [← HW17.out]; exact (Below.refl _ _).alloc (Nat.le_refl _) _ : Below W16.heap.size W16 W17).mono HB13_16.out.size))
      have HB14_17 : Hid (Below W14.heap.size W14 W17) := Lib.hid (HB14_16.out.trans ((by rw [← HW17.out]; exact (Below.refl _ _).alloc (Nat.le_refl _) _ : Below W16.heap.size W16 W17).mono HB14_16.out.size))
      have HB15_17 : Hid (Below W15.heap.size W15 W17) := Lib.hid (HB15_16.out.trans ((by rw [← HW17.out]; exact (Below.refl _ _).alloc (Nat.le_refl _) _ : Below W16.heap.size W16 W17).mono HB15_16.out.size))
      have HB16_17 : Hid (Below W16.heap.size W16 W17) := Lib.hid (by rw [← HW17.out]; exact (Below.refl _ _).alloc (Nat.le_refl _) _)
      have HX17_17 : Hid (∀ W, Below W17.heap.size W17 W → W.heap[W16.heap.size]? = some (.cells #[.int .i64 dp3, .int .i64 db3, .int .i64 ds3, .int .i64 dn3] 23 (0, 0))) := Lib.hid (fun W hb => (hb.block _ (by rw [← HW17.out]; simp)).trans (by rw [← HW17.out]; exact heap_alloc_new _ _))
      rw [HW17.out]
      rcases eq_cases e2 0 with ⟨HEz6, hez6, hfz6⟩ | ⟨HEz6, hez6, hfz6⟩
      · obtain rfl : e2 = 0 := HEz6.out
        obtain rfl : e3 = 0 := by obtain ⟨rr, hrr⟩ := come_less HF.out HD1.out HD2.out; rw [HD3.out] at hrr; simp only [Prod.mk.injEq] at hrr; exact hrr.2
        obtain ⟨k17_0, k17_1, k17_2, k17_3⟩ := cells4 (HX17_17.out W17 (Below.refl _ _))
        obtain ⟨k4_0, k4_1, k4_2, k4_3, k4_4, k4_5, k4_6, k4_7, k4_8, k4_9, k4_10, k4_11⟩ := order.cells12 (HX1_0.out W17 HB0_17.out)
        go_wp2_with fail
        refine Calls.mono (come_is dp3 db3 ds3 dn3 i a y 1 q p f ph m r v g HF3.out HFO.out (come_two HD1.out HD2.out HD3.out) _) ?_
        rintro e18 W18 ⟨rfl, hb⟩
        have HBw18 : Hid (Below w.heap.size w W18) := Lib.hid (HBw17.out.trans ((hb : Below W17.heap.size W17 W18).mono HBw17.out.size))
        have HB0_18 : Hid (Below W0.heap.size W0 W18) := Lib.hid (HB0_17.out.trans ((hb : Below W17.heap.size W17 W18).mono HB0_17.out.size))
        have HB1_18 : Hid (Below W1.heap.size W1 W18) := Lib.hid (HB1_17.out.trans ((hb : Below W17.heap.size W17 W18).mono HB1_17.out.size))
        have HB2_18 : Hid (Below W2.heap.size W2 W18) := Lib.hid (HB2_17.out.trans ((hb : Below W17.heap.size W17 W18).mono HB2_17.out.size))
        have HB3_18 : Hid (Below W3.heap.size W3 W18) := Lib.hid (HB3_17.out.trans ((hb : Below W17.heap.size W17 W18).mono HB3_17.out.size))
        have HB4_18 : Hid (Below W4.heap.size W4 W18) := Lib.hid (HB4_17.out.trans ((hb : Below W17.heap.size W17 W18).mono HB4_17.out.size))
        have HB5_18 : Hid (Below W5.heap.size W5 W18) := Lib.hid (HB5_17.out.trans ((hb : Below W17.heap.size W17 W18).mono HB5_17.out.size))
        have HB6_18 : Hid (Below W6.heap.size W6 W18) := Lib.hid (HB6_17.out.trans ((hb : Below W17.heap.size W17 W18).mono HB6_17.out.size))
        have HB7_18 : Hid (Below W7.heap.size W7 W18) := Lib.hid (HB7_17.out.trans ((hb : Below W17.heap.size W17 W18).mono HB7_17.out.size))
        have HB8_18 : Hid (Below W8.heap.size W8 W18) := Lib.hid (HB8_17.out.trans ((hb : Below W17.heap.size W17 W18).mono HB8_17.out.size))
        have HB9_18 : Hid (Below W9.heap.size W9 W18) := Lib.hid (HB9_17.out.trans ((hb : Below W17.heap.size W17 W18).mono HB9_17.out.size))
        have HB10_18 : Hid (Below W10.heap.size W10 W18) := Lib.hid (HB10_17.out.trans ((hb : Below W17.heap.size W17 W18).mono HB10_17.out.size))
        have HB11_18 : Hid (Below W11.heap.size W11 W18) := Lib.hid (HB11_17.out.trans ((hb : Below W17.heap.size W17 W18).mono HB11_17.out.size))
        have HB12_18 : Hid (Below W12.heap.size W12 W18) := Lib.hid (HB12_17.out.trans ((hb : Below W17.heap.size W17 W18).mono HB12_17.out.size))
        have HB13_18 : Hid (Below W13.heap.size W13 W18) := Lib.hid (HB13_17.out.trans ((hb : Below W17.heap.size W17 W18).mono HB13_17.out.size))
        have HB14_18 : Hid (Below W14.heap.size W14 W18) := Lib.hid (HB14_17.out.trans ((hb : Below W17.heap.size W17 W18).mono HB14_17.out.size))
        have HB15_18 : Hid (Below W15.heap.size W15 W18) := Lib.hid (HB15_17.out.trans ((hb : Below W17.heap.size W17 W18).mono HB15_17.out.size))
        have HB16_18 : Hid (Below W16.heap.size W16 W18) := Lib.hid (HB16_17.out.trans ((hb : Below W17.heap.size W17 W18).mono HB16_17.out.size))
        have HB17_18 : Hid (Below W17.heap.size W17 W18) := Lib.hid (hb)
        clear hb
        clear k17_0 k17_1 k17_2 k17_3 k4_0 k4_1 k4_2 k4_3 k4_4 k4_5 k4_6 k4_7 k4_8 k4_9 k4_10 k4_11
        go_upto_region 18 with fail
        obtain ⟨W19, HW19⟩ : ∃ W, Hid ((W18.alloc (.cells #[.int .i64 dp2, .int .i64 db2, .int .i64 ds2, .int .i64 dn2] 23)) = W) := ⟨_, Lib.hid rfl⟩
        have NE_19_19_3 : Hid (w.heap.size ≠ W18.heap.size) := Lib.hid (Nat.ne_of_lt (Array.getElem?_eq_some_iff.1 (HX0_0.out W18 HB0_18.out)).1)
        have NE_19_19_4 : Hid (w.heap.size + 1 ≠ W18.heap.size) := Lib.hid (Nat.ne_of_lt (Array.getElem?_eq_some_iff.1 (HX1_0.out W18 HB0_18.out)).1)
        have NE_19_19_5 : Hid (w.heap.size + 1 + 1 ≠ W18.heap.size) := Lib.hid (Nat.ne_of_lt (Array.getElem?_eq_some_iff.1 (HX2_0.out W18 HB0_18.out)).1)
        have NE_19_19_7 : Hid (W2.heap.size ≠ W18.heap.size) := Lib.hid (Nat.ne_of_lt (Array.getElem?_eq_some_iff.1 (HX7_3.out W18 HB3_18.out)).1)
        have NE_19_19_9 : Hid (W4.heap.size ≠ W18.heap.size) := Lib.hid (Nat.ne_of_lt (Array.getElem?_eq_some_iff.1 (HX9_5.out W18 HB5_18.out)).1)
        have NE_19_19_11 : Hid (W6.heap.size ≠ W18.heap.size) := Lib.hid (Nat.ne_of_lt (Array.getElem?_eq_some_iff.1 (HX11_7.out W18 HB7_18.out)).1)
        have NE_19_19_13 : Hid (W8.heap.size ≠ W18.heap.size) := Lib.hid (Nat.ne_of_lt (Array.getElem?_eq_some_iff.1 (HX13_9.out W18 HB9_18.out)).1)
        have NE_19_19_15 : Hid (W14.heap.size ≠ W18.heap.size) := Lib.hid (Nat.ne_of_lt (Array.getElem?_eq_some_iff.1 (HX15_15.out W18 HB15_18.out)).1)
        have NE_19_19_17 : Hid (W16.heap.size ≠ W18.heap.size) := Lib.hid (Nat.ne_of_lt (Array.getElem?_eq_some_iff.1 (HX17_17.out W18 HB17_18.out)).1)
        have LE_19 : Hid (w.heap.size ≤ W18.heap.size) := Lib.hid HBw18.out.size
        have HBw19 : Hid (Below w.heap.size w W19) := Lib.hid (HBw18.out.trans ((by rw [← HW19.out]; exact (Below.refl _ _).alloc (Nat.le_refl _) _ : Below W18.heap.size W18 W19).mono HBw18.out.size))
        have HB0_19 : Hid (Below W0.heap.size W0 W19) := Lib.hid (HB0_18.out.trans ((by rw [← HW19.out]; exact (Below.refl _ _).alloc (Nat.le_refl _) _ : Below W18.heap.size W18 W19).mono HB0_18.out.size))
        have HB1_19 : Hid (Below W1.heap.size W1 W19) := Lib.hid (HB1_18.out.trans ((by rw [← HW19.out]; exact (Below.refl _ _).alloc (Nat.le_refl _) _ : Below W18.heap.size W18 W19).mono HB1_18.out.size))
        have HB2_19 : Hid (Below W2.heap.size W2 W19) := Lib.hid (HB2_18.out.trans ((by rw [← HW19.out]; exact (Below.refl _ _).alloc (Nat.le_refl _) _ : Below W18.heap.size W18 W19).mono HB2_18.out.size))
        have HB3_19 : Hid (Below W3.heap.size W3 W19) := Lib.hid (HB3_18.out.trans ((by rw [← HW19.out]; exact (Below.refl _ _).alloc (Nat.le_refl _) _ : Below W18.heap.size W18 W19).mono HB3_18.out.size))
        have HB4_19 : Hid (Below W4.heap.size W4 W19) := Lib.hid (HB4_18.out.trans ((by rw [← HW19.out]; exact (Below.refl _ _).alloc (Nat.le_refl _) _ : Below W18.heap.size W18 W19).mono HB4_18.out.size))
        have HB5_19 : Hid (Below W5.heap.size W5 W19) := Lib.hid (HB5_18.out.trans ((by rw [← HW19.out]; exact (Below.refl _ _).alloc (Nat.le_refl _) _ : Below W18.heap.size W18 W19).mono HB5_18.out.size))
        have HB6_19 : Hid (Below W6.heap.size W6 W19) := Lib.hid (HB6_18.out.trans ((by rw [← HW19.out]; exact (Below.refl _ _).alloc (Nat.le_refl _) _ : Below W18.heap.size W18 W19).mono HB6_18.out.size))
        have HB7_19 : Hid (Below W7.heap.size W7 W19) := Lib.hid (HB7_18.out.trans ((by rw [← HW19.out]; exact (Below.refl _ _).alloc (Nat.le_refl _) _ : Below W18.heap.size W18 W19).mono HB7_18.out.size))
        have HB8_19 : Hid (Below W8.heap.size W8 W19) := Lib.hid (HB8_18.out.trans ((by rw [← HW19.out]; exact (Below.refl _ _).alloc (Nat.le_refl _) _ : Below W18.heap.size W18 W19).mono HB8_18.out.size))
        have HB9_19 : Hid (Below W9.heap.size W9 W19) := Lib.hid (HB9_18.out.trans ((by rw [← HW19.out]; exact (Below.refl _ _).alloc (Nat.le_refl _) _ : Below W18.heap.size W18 W19).mono HB9_18.out.size))
        have HB10_19 : Hid (Below W10.heap.size W10 W19) := Lib.hid (HB10_18.out.trans ((by rw [← HW19.out]; exact (Below.refl _ _).alloc (Nat.le_refl _) _ : Below W18.heap.size W18 W19).mono HB10_18.out.size))
        have HB11_19 : Hid (Below W11.heap.size W11 W19) := Lib.hid (HB11_18.out.trans ((by rw [← HW19.out]; exact (Below.refl _ _).alloc (Nat.le_refl _) _ : Below W18.heap.size W18 W19).mono HB11_18.out.size))
        have HB12_19 : Hid (Below W12.heap.size W12 W19) := Lib.hid (HB12_18.out.trans ((by rw [← HW19.out]; exact (Below.refl _ _).alloc (Nat.le_refl _) _ : Below W18.heap.size W18 W19).mono HB12_18.out.size))
        have HB13_19 : Hid (Below W13.heap.size W13 W19) := Lib.hid (HB13_18.out.trans ((by rw [← HW19.out]; exact (Below.refl _ _).alloc (Nat.le_refl _) _ : Below W18.heap.size W18 W19).mono HB13_18.out.size))
        have HB14_19 : Hid (Below W14.heap.size W14 W19) := Lib.hid (HB14_18.out.trans ((by rw [← HW19.out]; exact (Below.refl _ _).alloc (Nat.le_refl _) _ : Below W18.heap.size W18 W19).mono HB14_18.out.size))
        have HB15_19 : Hid (Below W15.heap.size W15 W19) := Lib.hid (HB15_18.out.trans ((by rw [← HW19.out]; exact (Below.refl _ _).alloc (Nat.le_refl _) _ : Below W18.heap.size W18 W19).mono HB15_18.out.size))
        have HB16_19 : Hid (Below W16.heap.size W16 W19) := Lib.hid (HB16_18.out.trans ((by rw [← HW19.out]; exact (Below.refl _ _).alloc (Nat.le_refl _) _ : Below W18.heap.size W18 W19).mono HB16_18.out.size))
        have HB17_19 : Hid (Below W17.heap.size W17 W19) := Lib.hid (HB17_18.out.trans ((by rw [← HW19.out]; exact (Below.refl _ _).alloc (Nat.le_refl _) _ : Below W18.heap.size W18 W19).mono HB17_18.out.size))
        have HB18_19 : Hid (Below W18.heap.size W18 W19) := Lib.hid (by rw [← HW19.out]; exact (Below.refl _ _).alloc (Nat.le_refl _) _)
        have HX19_19 : Hid (∀ W, Below W19.heap.size W19 W → W.heap[W18.heap.size]? = some (.cells #[.int .i64 dp2, .int .i64 db2, .int .i64 ds2, .int .i64 dn2] 23 (0, 0))) := Lib.hid (fun W hb => (hb.block _ (by rw [← HW19.out]; simp)).trans (by rw [← HW19.out]; exact heap_alloc_new _ _))
        rw [HW19.out]
        have heq7 : ∀ W, (Op.equalIn 10000 23 (.agg #[.int .i64 dp2, .int .i64 db2, .int .i64 ds2, .int .i64 dn2]) (.agg #[.int .i64 dp2, .int .i64 db2, .int .i64 ds2, .int .i64 dn2])).run Try.prog W = .ok true W := fun W => eq4_of rfl rfl HF2.out HF2.out (decide_eq_true rfl) W
        obtain ⟨k19_0, k19_1, k19_2, k19_3⟩ := cells4 (HX19_19.out W19 (Below.refl _ _))
        obtain ⟨k15_0, k15_1, k15_2, k15_3⟩ := cells4 (HX15_15.out W19 HB15_19.out)
        go_wp2_with fail
        go_ret
        exact ⟨rec.retB (by first | rfl | (simp; done) | (simp; omega)), HBw19.out⟩
      · go_wp2_with fail
        go_ret
        exact ⟨rec.retB (by first | rfl | (simp; done) | (simp; omega)), HBw17.out⟩
    · have HSD : Hid (d = 2) := Lib.hid (by have h := (come_ok HD1.out).2.2.1; unfold order.Rightly at h; have h2 := HEz3.out; simp only at h; omega)
      have hk8 : d = 2 := HSD.out
      have hk8b : (d == 2) = true := by simpa using hk8
      have hk8c : (d != 2) = false := by simpa using hk8
      clear hk8
      have hk9 : (dp1 + db1) = (cp + cb) := ((come_of HD1.out).2.2.2.2.2 HSD.out).1
      have hk9b : ((dp1 + db1) == (cp + cb)) = true := by simpa using hk9
      have hk9c : ((dp1 + db1) != (cp + cb)) = false := by simpa using hk9
      clear hk9
      obtain ⟨xo, HXO⟩ : ∃ x, Hid (order.open_ ⟨i, a, y, d, q, p, f, ph, m, r, v, g⟩ = x) := ⟨_, Lib.hid rfl⟩
      have hwr : IntKind.i64.wrap ((ds1 - dp1) - (cs - cp)) = (ds1 - dp1) - (cs - cp) := IntWalk.i64_in _ (by have h0 := ((come_of HD1.out).2.2.2.2.2 HSD.out).2; rw [HXO.out] at h0; have h : (ds1 - dp1) - (cs - cp) = xo := h0; have h2 := open_in HFO.out; rw [HXO.out] at h2; simp only [frame.inR] at h2; omega)
      have hk10 : ((ds1 - dp1) - (cs - cp)) = xo := by have h := ((come_of HD1.out).2.2.2.2.2 HSD.out).2; rw [HXO.out] at h; exact h
      have hk10b : (((ds1 - dp1) - (cs - cp)) == xo) = true := by simpa using hk10
      have hk10c : (((ds1 - dp1) - (cs - cp)) != xo) = false := by simpa using hk10
      clear hk10
      clear k7_0 k7_1 k7_2 k7_3
      go_upto_region 11 with fail
      refine wp_region_held_drew (S := fun W => Below W11.heap.size W11 W) (by kernel_rfl) (Below.refl _ _).drew (fun _ => ?_)
      obtain ⟨W12, hW12⟩ : ∃ x, x = W11.drew := ⟨_, rfl⟩
      rw [← hW12]
      have HBw12 : Hid (Below w.heap.size w W12) := Lib.hid (HBw11.out.trans ((by rw [hW12]; exact (Below.refl _ _).drew : Below W11.heap.size W11 W12).mono HBw11.out.size))
      have HB0_12 : Hid (Below W0.heap.size W0 W12) := Lib.hid (HB0_11.out.trans ((by rw [hW12]; exact (Below.refl _ _).drew : Below W11.heap.size W11 W12).mono HB0_11.out.size))
      have HB1_12 : Hid (Below W1.heap.size W1 W12) := Lib.hid (HB1_11.out.trans ((by rw [hW12]; exact (Below.refl _ _).drew : Below W11.heap.size W11 W12).mono HB1_11.out.size))
      have HB2_12 : Hid (Below W2.heap.size W2 W12) := Lib.hid (HB2_11.out.trans ((by rw [hW12]; exact (Below.refl _ _).drew : Below W11.heap.size W11 W12).mono HB2_11.out.size))
      have HB3_12 : Hid (Below W3.heap.size W3 W12) := Lib.hid (HB3_11.out.trans ((by rw [hW12]; exact (Below.refl _ _).drew : Below W11.heap.size W11 W12).mono HB3_11.out.size))
      have HB4_12 : Hid (Below W4.heap.size W4 W12) := Lib.hid (HB4_11.out.trans ((by rw [hW12]; exact (Below.refl _ _).drew : Below W11.heap.size W11 W12).mono HB4_11.out.size))
      have HB5_12 : Hid (Below W5.heap.size W5 W12) := Lib.hid (HB5_11.out.trans ((by rw [hW12]; exact (Below.refl _ _).drew : Below W11.heap.size W11 W12).mono HB5_11.out.size))
      have HB6_12 : Hid (Below W6.heap.size W6 W12) := Lib.hid (HB6_11.out.trans ((by rw [hW12]; exact (Below.refl _ _).drew : Below W11.heap.size W11 W12).mono HB6_11.out.size))
      have HB7_12 : Hid (Below W7.heap.size W7 W12) := Lib.hid (HB7_11.out.trans ((by rw [hW12]; exact (Below.refl _ _).drew : Below W11.heap.size W11 W12).mono HB7_11.out.size))
      have HB8_12 : Hid (Below W8.heap.size W8 W12) := Lib.hid (HB8_11.out.trans ((by rw [hW12]; exact (Below.refl _ _).drew : Below W11.heap.size W11 W12).mono HB8_11.out.size))
      have HB9_12 : Hid (Below W9.heap.size W9 W12) := Lib.hid (HB9_11.out.trans ((by rw [hW12]; exact (Below.refl _ _).drew : Below W11.heap.size W11 W12).mono HB9_11.out.size))
      have HB10_12 : Hid (Below W10.heap.size W10 W12) := Lib.hid (HB10_11.out.trans ((by rw [hW12]; exact (Below.refl _ _).drew : Below W11.heap.size W11 W12).mono HB10_11.out.size))
      have HB11_12 : Hid (Below W11.heap.size W11 W12) := Lib.hid (by rw [hW12]; exact (Below.refl _ _).drew)
      clear hW12
      refine wpAnyH_take (i := 0) (v := .pointer (some ⟨w.heap.size + 1, 3, none⟩)) rfl (by kernel_rfl) (by kernel_rfl) (by kernel_rfl) (fun _ _ _ h => h) (Or.inl ⟨by kernel_rfl, ?h0⟩) HB11_12.out ?_
      case h0 => (intro WX hWX; go_simp)
      go_simp
      refine wpAnyH_take (i := 1) (v := .int .i64 d) rfl (by kernel_rfl) (by kernel_rfl) (by kernel_rfl) (fun _ _ _ h => h) (Or.inl ⟨by kernel_rfl, ?h1⟩) HB11_12.out ?_
      case h1 => (intro WX hWX; obtain ⟨y0, y1, y2, y3, y4, y5, y6, y7, y8, y9, y10, y11⟩ := order.cells12 (HX1_0.out WX (HB0_11.out.trans ((show Below W11.heap.size W11 WX from hWX).mono HB0_11.out.size))); go_simp)
      go_simp
      refine wpAnyH_take (i := 2) (v := .bool false) rfl (by kernel_rfl) (by kernel_rfl) (by kernel_rfl) (fun _ _ _ h => h) (Or.inl ⟨by kernel_rfl, ?h2⟩) HB11_12.out ?_
      case h2 => (intro WX hWX; go_simp)
      go_simp
      refine wpAnyH_take (i := 3) (v := .bool false) rfl (by kernel_rfl) (by kernel_rfl) (by kernel_rfl) (fun _ _ _ h => h) (Or.inl ⟨by kernel_rfl, ?h3⟩) HB11_12.out ?_
      case h3 => (intro WX hWX; go_simp)
      go_simp
      refine wpAnyH_take (i := 4) (v := undef) rfl (by kernel_rfl) (by kernel_rfl) (by kernel_rfl) (fun _ _ _ h => h) (Or.inr ⟨by kernel_rfl, rfl⟩) HB11_12.out ?_
      go_simp
      refine wpAnyH_take (i := 5) (v := undef) rfl (by kernel_rfl) (by kernel_rfl) (by kernel_rfl) (fun _ _ _ h => h) (Or.inr ⟨by kernel_rfl, rfl⟩) HB11_12.out ?_
      go_simp
      refine wpAnyH_take (i := 6) (v := undef) rfl (by kernel_rfl) (by kernel_rfl) (by kernel_rfl) (fun _ _ _ h => h) (Or.inr ⟨by kernel_rfl, rfl⟩) HB11_12.out ?_
      go_simp
      refine wpAnyH_take (i := 7) (v := undef) rfl (by kernel_rfl) (by kernel_rfl) (by kernel_rfl) (fun _ _ _ h => h) (Or.inr ⟨by kernel_rfl, rfl⟩) HB11_12.out ?_
      go_simp
      refine wpAnyH_take (i := 8) (v := undef) rfl (by kernel_rfl) (by kernel_rfl) (by kernel_rfl) (fun _ _ _ h => h) (Or.inr ⟨by kernel_rfl, rfl⟩) HB11_12.out ?_
      go_simp
      refine wpAnyH_take (i := 9) (v := undef) rfl (by kernel_rfl) (by kernel_rfl) (by kernel_rfl) (fun _ _ _ h => h) (Or.inr ⟨by kernel_rfl, rfl⟩) HB11_12.out ?_
      go_simp
      refine wpAnyH_take (i := 10) (v := undef) rfl (by kernel_rfl) (by kernel_rfl) (by kernel_rfl) (fun _ _ _ h => h) (Or.inr ⟨by kernel_rfl, rfl⟩) HB11_12.out ?_
      go_simp
      refine wpAnyH_take (i := 11) (v := undef) rfl (by kernel_rfl) (by kernel_rfl) (by kernel_rfl) (fun _ _ _ h => h) (Or.inr ⟨by kernel_rfl, rfl⟩) HB11_12.out ?_
      go_simp
      refine wpAnyH_take (i := 12) (v := undef) rfl (by kernel_rfl) (by kernel_rfl) (by kernel_rfl) (fun _ _ _ h => h) (Or.inr ⟨by kernel_rfl, rfl⟩) HB11_12.out ?_
      go_simp
      refine wpAnyH_take (i := 13) (v := undef) rfl (by kernel_rfl) (by kernel_rfl) (by kernel_rfl) (fun _ _ _ h => h) (Or.inr ⟨by kernel_rfl, rfl⟩) HB11_12.out ?_
      go_simp
      refine wpAnyH_take (i := 14) (v := undef) rfl (by kernel_rfl) (by kernel_rfl) (by kernel_rfl) (fun _ _ _ h => h) (Or.inr ⟨by kernel_rfl, rfl⟩) HB11_12.out ?_
      go_simp
      refine wpAnyH_take (i := 15) (v := undef) rfl (by kernel_rfl) (by kernel_rfl) (by kernel_rfl) (fun _ _ _ h => h) (Or.inr ⟨by kernel_rfl, rfl⟩) HB11_12.out ?_
      go_simp
      refine wpAnyH_take (i := 16) (v := undef) rfl (by kernel_rfl) (by kernel_rfl) (by kernel_rfl) (fun _ _ _ h => h) (Or.inr ⟨by kernel_rfl, rfl⟩) HB11_12.out ?_
      go_simp
      refine wpAnyH_take (i := 17) (v := undef) rfl (by kernel_rfl) (by kernel_rfl) (by kernel_rfl) (fun _ _ _ h => h) (Or.inr ⟨by kernel_rfl, rfl⟩) HB11_12.out ?_
      go_simp
      refine wpAnyH_take (i := 18) (v := undef) rfl (by kernel_rfl) (by kernel_rfl) (by kernel_rfl) (fun _ _ _ h => h) (Or.inr ⟨by kernel_rfl, rfl⟩) HB11_12.out ?_
      go_simp
      refine wpAnyH_take (i := 19) (v := .bool false) rfl (by kernel_rfl) (by kernel_rfl) (by kernel_rfl) (fun _ _ _ h => h) (Or.inl ⟨by kernel_rfl, ?h19⟩) HB11_12.out ?_
      case h19 => (intro WX hWX; go_simp)
      go_simp
      refine wpAnyH_take (i := 20) (v := .bool false) rfl (by kernel_rfl) (by kernel_rfl) (by kernel_rfl) (fun _ _ _ h => h) (Or.inl ⟨by kernel_rfl, ?h20⟩) HB11_12.out ?_
      case h20 => (intro WX hWX; go_simp)
      go_simp
      refine wpAnyH_take (i := 21) (v := .pointer (some ⟨w.heap.size + 1, 3, none⟩)) rfl (by kernel_rfl) (by kernel_rfl) (by kernel_rfl) (fun _ _ _ h => h) (Or.inl ⟨by kernel_rfl, ?h21⟩) HB11_12.out ?_
      case h21 => (intro WX hWX; go_simp)
      go_simp
      refine wpAnyH_take (i := 22) (v := .int .i64 d) rfl (by kernel_rfl) (by kernel_rfl) (by kernel_rfl) (fun _ _ _ h => h) (Or.inl ⟨by kernel_rfl, ?h22⟩) HB11_12.out ?_
      case h22 => (intro WX hWX; obtain ⟨y0, y1, y2, y3, y4, y5, y6, y7, y8, y9, y10, y11⟩ := order.cells12 (HX1_0.out WX (HB0_11.out.trans ((show Below W11.heap.size W11 WX from hWX).mono HB0_11.out.size))); go_simp)
      go_simp
      refine wpAnyH_take (i := 23) (v := .bool true) rfl (by kernel_rfl) (by kernel_rfl) (by kernel_rfl) (fun _ _ _ h => h) (Or.inl ⟨by kernel_rfl, ?h23⟩) HB11_12.out ?_
      case h23 => (intro WX hWX; go_simp)
      go_simp
      refine wpAnyH_take (i := 24) (v := .bool true) rfl (by kernel_rfl) (by kernel_rfl) (by kernel_rfl) (fun _ _ _ h => h) (Or.inl ⟨by kernel_rfl, ?h24⟩) HB11_12.out ?_
      case h24 => (intro WX hWX; go_simp)
      go_simp
      refine wpAnyH_take (i := 25) (v := .pointer (some ⟨W8.heap.size, 0, none⟩)) rfl (by kernel_rfl) (by kernel_rfl) (by kernel_rfl) (fun _ _ _ h => h) (Or.inl ⟨by kernel_rfl, ?h25⟩) HB11_12.out ?_
      case h25 => (intro WX hWX; go_simp)
      go_simp
      refine wpAnyH_take (i := 26) (v := .int .i64 (dp1 + db1)) rfl (by kernel_rfl) (by kernel_rfl) (by kernel_rfl) (fun _ _ _ h => h) (Or.inl ⟨by kernel_rfl, ?h26⟩) HB11_12.out ?_
      case h26 => (intro WX hWX; obtain ⟨y0, y1, y2⟩ := cells3 (HX13_9.out WX (HB9_11.out.trans ((show Below W11.heap.size W11 WX from hWX).mono HB9_11.out.size))); go_simp)
      go_simp
      refine wpAnyH_take (i := 27) (v := .pointer (some ⟨W6.heap.size, 0, none⟩)) rfl (by kernel_rfl) (by kernel_rfl) (by kernel_rfl) (fun _ _ _ h => h) (Or.inl ⟨by kernel_rfl, ?h27⟩) HB11_12.out ?_
      case h27 => (intro WX hWX; go_simp)
      go_simp
      refine wpAnyH_take (i := 28) (v := .int .i64 (cp + cb)) rfl (by kernel_rfl) (by kernel_rfl) (by kernel_rfl) (fun _ _ _ h => h) (Or.inl ⟨by kernel_rfl, ?h28⟩) HB11_12.out ?_
      case h28 => (intro WX hWX; obtain ⟨y0, y1, y2⟩ := cells3 (HX11_7.out WX (HB7_11.out.trans ((show Below W11.heap.size W11 WX from hWX).mono HB7_11.out.size))); go_simp)
      go_simp
      refine wpAnyH_take (i := 29) (v := .bool false) rfl (by kernel_rfl) (by kernel_rfl) (by kernel_rfl) (fun _ _ _ h => h) (Or.inl ⟨by kernel_rfl, ?h29⟩) HB11_12.out ?_
      case h29 => (intro WX hWX; go_simp)
      go_simp
      refine wpAnyH_take (i := 30) (v := .bool false) rfl (by kernel_rfl) (by kernel_rfl) (by kernel_rfl) (fun _ _ _ h => h) (Or.inl ⟨by kernel_rfl, ?h30⟩) HB11_12.out ?_
      case h30 => (intro WX hWX; go_simp)
      go_simp
      refine wpAnyH_take (i := 31) (v := .pointer (some ⟨W8.heap.size, 1, none⟩)) rfl (by kernel_rfl) (by kernel_rfl) (by kernel_rfl) (fun _ _ _ h => h) (Or.inl ⟨by kernel_rfl, ?h31⟩) HB11_12.out ?_
      case h31 => (intro WX hWX; go_simp)
      go_simp
      refine wpAnyH_take (i := 32) (v := .int .i64 (ds1 - dp1)) rfl (by kernel_rfl) (by kernel_rfl) (by kernel_rfl) (fun _ _ _ h => h) (Or.inl ⟨by kernel_rfl, ?h32⟩) HB11_12.out ?_
      case h32 => (intro WX hWX; obtain ⟨y0, y1, y2⟩ := cells3 (HX13_9.out WX (HB9_11.out.trans ((show Below W11.heap.size W11 WX from hWX).mono HB9_11.out.size))); go_simp)
      go_simp
      refine wpAnyH_take (i := 33) (v := .pointer (some ⟨W6.heap.size, 1, none⟩)) rfl (by kernel_rfl) (by kernel_rfl) (by kernel_rfl) (fun _ _ _ h => h) (Or.inl ⟨by kernel_rfl, ?h33⟩) HB11_12.out ?_
      case h33 => (intro WX hWX; go_simp)
      go_simp
      refine wpAnyH_take (i := 34) (v := .int .i64 (cs - cp)) rfl (by kernel_rfl) (by kernel_rfl) (by kernel_rfl) (fun _ _ _ h => h) (Or.inl ⟨by kernel_rfl, ?h34⟩) HB11_12.out ?_
      case h34 => (intro WX hWX; obtain ⟨y0, y1, y2⟩ := cells3 (HX11_7.out WX (HB7_11.out.trans ((show Below W11.heap.size W11 WX from hWX).mono HB7_11.out.size))); go_simp)
      go_simp
      refine wpAnyH_take (i := 35) (v := .int .i64 ((ds1 - dp1) - (cs - cp))) rfl (by kernel_rfl) (by kernel_rfl) (by kernel_rfl) (fun _ _ _ h => h) (Or.inl ⟨by kernel_rfl, ?h35⟩) HB11_12.out ?_
      case h35 => (intro WX hWX; go_simp)
      go_simp
      refine wpAnyH_take (i := 36) (v := .agg #[.int .i64 i, .int .i64 a, .int .i64 y, .int .i64 d, .int .i64 q, .int .i64 p, .int .i64 f, .int .i64 ph, .int .i64 m, .int .i64 r, .int .i64 v, .bool g]) rfl (by kernel_rfl) (by kernel_rfl) (by kernel_rfl) (fun _ _ _ h => h) (Or.inl ⟨by kernel_rfl, ?h36⟩) HB11_12.out ?_
      case h36 => (intro WX hWX; obtain ⟨y0, y1, y2, y3, y4, y5, y6, y7, y8, y9, y10, y11⟩ := order.cells12 (HX1_0.out WX (HB0_11.out.trans ((show Below W11.heap.size W11 WX from hWX).mono HB0_11.out.size))); go_simp)
      go_simp
      refine wpAnyH_ready (rs := [37]) (by kernel_rfl) (by simp) ?_
      refine AllReadyH.cons rfl (fun K hK => ?_) AllReadyH.nil
      go_simp
      go_wp2_with (refine Calls.mono (order.open_is i a y d q p f ph m r v g HFO.out HXO.out _) ?_; rintro e13 W13 ⟨rfl, hb⟩)
      have HBw13 : Hid (Below w.heap.size w W13) := Lib.hid (HBw12.out.trans ((hb : Below W12.heap.size W12 W13).mono HBw12.out.size))
      have HB0_13 : Hid (Below W0.heap.size W0 W13) := Lib.hid (HB0_12.out.trans ((hb : Below W12.heap.size W12 W13).mono HB0_12.out.size))
      have HB1_13 : Hid (Below W1.heap.size W1 W13) := Lib.hid (HB1_12.out.trans ((hb : Below W12.heap.size W12 W13).mono HB1_12.out.size))
      have HB2_13 : Hid (Below W2.heap.size W2 W13) := Lib.hid (HB2_12.out.trans ((hb : Below W12.heap.size W12 W13).mono HB2_12.out.size))
      have HB3_13 : Hid (Below W3.heap.size W3 W13) := Lib.hid (HB3_12.out.trans ((hb : Below W12.heap.size W12 W13).mono HB3_12.out.size))
      have HB4_13 : Hid (Below W4.heap.size W4 W13) := Lib.hid (HB4_12.out.trans ((hb : Below W12.heap.size W12 W13).mono HB4_12.out.size))
      have HB5_13 : Hid (Below W5.heap.size W5 W13) := Lib.hid (HB5_12.out.trans ((hb : Below W12.heap.size W12 W13).mono HB5_12.out.size))
      have HB6_13 : Hid (Below W6.heap.size W6 W13) := Lib.hid (HB6_12.out.trans ((hb : Below W12.heap.size W12 W13).mono HB6_12.out.size))
      have HB7_13 : Hid (Below W7.heap.size W7 W13) := Lib.hid (HB7_12.out.trans ((hb : Below W12.heap.size W12 W13).mono HB7_12.out.size))
      have HB8_13 : Hid (Below W8.heap.size W8 W13) := Lib.hid (HB8_12.out.trans ((hb : Below W12.heap.size W12 W13).mono HB8_12.out.size))
      have HB9_13 : Hid (Below W9.heap.size W9 W13) := Lib.hid (HB9_12.out.trans ((hb : Below W12.heap.size W12 W13).mono HB9_12.out.size))
      have HB10_13 : Hid (Below W10.heap.size W10 W13) := Lib.hid (HB10_12.out.trans ((hb : Below W12.heap.size W12 W13).mono HB10_12.out.size))
      have HB11_13 : Hid (Below W11.heap.size W11 W13) := Lib.hid (HB11_12.out.trans ((hb : Below W12.heap.size W12 W13).mono HB11_12.out.size))
      have HB12_13 : Hid (Below W12.heap.size W12 W13) := Lib.hid (hb)
      clear hb
      refine hK.out _ _ HB11_13.out (fun _ => ?_)
      clear hK K
      go_simp
      refine wpAnyH_take (i := 38) (v := .bool false) rfl (by kernel_rfl) (by kernel_rfl) (by kernel_rfl) (fun _ _ _ h => h) (Or.inl ⟨by kernel_rfl, ?h38⟩) HB11_13.out ?_
      case h38 => (intro WX hWX; go_simp)
      go_simp
      refine wpAnyH_take (i := 39) (v := .bool false) rfl (by kernel_rfl) (by kernel_rfl) (by kernel_rfl) (fun _ _ _ h => h) (Or.inl ⟨by kernel_rfl, ?h39⟩) HB11_13.out ?_
      case h39 => (intro WX hWX; go_simp)
      go_simp
      refine wpAnyH_take (i := 40) (v := .bool false) rfl (by kernel_rfl) (by kernel_rfl) (by kernel_rfl) (fun _ _ _ h => h) (Or.inl ⟨by kernel_rfl, ?h40⟩) HB11_13.out ?_
      case h40 => (intro WX hWX; go_simp)
      go_simp
      refine wpAnyH_take (i := 41) (v := .bool false) rfl (by kernel_rfl) (by kernel_rfl) (by kernel_rfl) (fun _ _ _ h => h) (Or.inl ⟨by kernel_rfl, ?h41⟩) HB11_13.out ?_
      case h41 => (intro WX hWX; go_simp)
      go_simp
      refine wpAnyH_done (by kernel_rfl) ?_ _
      obtain ⟨⟨⟨dp2, db2, ds2, dn2⟩, e2⟩, hh⟩ : ∃ x, come ⟨dp1, db1, ds1, dn1⟩ ⟨iP, aP, yP, dP, qP, pP, fP, phP, mP, rP, vP, gP⟩ = x := ⟨_, rfl⟩
      have HD2 := Lib.hid hh
      have HF2 : Hid ((⟨dp2, db2, ds2, dn2⟩ : Ce).fine) := Lib.hid (come_fine HF1.out hh)
      clear hh
      obtain ⟨k7_0, k7_1, k7_2, k7_3⟩ := cells4 (HX7_3.out W13 HB3_13.out)
      obtain ⟨k5_0, k5_1, k5_2, k5_3, k5_4, k5_5, k5_6, k5_7, k5_8, k5_9, k5_10, k5_11⟩ := order.cells12 (HX2_0.out W13 HB0_13.out)
      go_wp2_with fail
      refine Calls.mono (come_is dp1 db1 ds1 dn1 iP aP yP dP qP pP fP phP mP rP vP gP HF1.out HFP.out HD2.out _) ?_
      rintro e14 W14 ⟨rfl, hb⟩
      have HBw14 : Hid (Below w.heap.size w W14) := Lib.hid (HBw13.out.trans ((hb : Below W13.heap.size W13 W14).mono HBw13.out.size))
      have HB0_14 : Hid (Below W0.heap.size W0 W14) := Lib.hid (HB0_13.out.trans ((hb : Below W13.heap.size W13 W14).mono HB0_13.out.size))
      have HB1_14 : Hid (Below W1.heap.size W1 W14) := Lib.hid (HB1_13.out.trans ((hb : Below W13.heap.size W13 W14).mono HB1_13.out.size))
      have HB2_14 : Hid (Below W2.heap.size W2 W14) := Lib.hid (HB2_13.out.trans ((hb : Below W13.heap.size W13 W14).mono HB2_13.out.size))
      have HB3_14 : Hid (Below W3.heap.size W3 W14) := Lib.hid (HB3_13.out.trans ((hb : Below W13.heap.size W13 W14).mono HB3_13.out.size))
      have HB4_14 : Hid (Below W4.heap.size W4 W14) := Lib.hid (HB4_13.out.trans ((hb : Below W13.heap.size W13 W14).mono HB4_13.out.size))
      have HB5_14 : Hid (Below W5.heap.size W5 W14) := Lib.hid (HB5_13.out.trans ((hb : Below W13.heap.size W13 W14).mono HB5_13.out.size))
      have HB6_14 : Hid (Below W6.heap.size W6 W14) := Lib.hid (HB6_13.out.trans ((hb : Below W13.heap.size W13 W14).mono HB6_13.out.size))
      have HB7_14 : Hid (Below W7.heap.size W7 W14) := Lib.hid (HB7_13.out.trans ((hb : Below W13.heap.size W13 W14).mono HB7_13.out.size))
      have HB8_14 : Hid (Below W8.heap.size W8 W14) := Lib.hid (HB8_13.out.trans ((hb : Below W13.heap.size W13 W14).mono HB8_13.out.size))
      have HB9_14 : Hid (Below W9.heap.size W9 W14) := Lib.hid (HB9_13.out.trans ((hb : Below W13.heap.size W13 W14).mono HB9_13.out.size))
      have HB10_14 : Hid (Below W10.heap.size W10 W14) := Lib.hid (HB10_13.out.trans ((hb : Below W13.heap.size W13 W14).mono HB10_13.out.size))
      have HB11_14 : Hid (Below W11.heap.size W11 W14) := Lib.hid (HB11_13.out.trans ((hb : Below W13.heap.size W13 W14).mono HB11_13.out.size))
      have HB12_14 : Hid (Below W12.heap.size W12 W14) := Lib.hid (HB12_13.out.trans ((hb : Below W13.heap.size W13 W14).mono HB12_13.out.size))
      have HB13_14 : Hid (Below W13.heap.size W13 W14) := Lib.hid (hb)
      clear hb
      clear k7_0 k7_1 k7_2 k7_3 k5_0 k5_1 k5_2 k5_3 k5_4 k5_5 k5_6 k5_7 k5_8 k5_9 k5_10 k5_11
      go_upto_region 14 with fail
      obtain ⟨W15, HW15⟩ : ∃ W, Hid ((W14.alloc (.cells #[.int .i64 dp2, .int .i64 db2, .int .i64 ds2, .int .i64 dn2] 23)) = W) := ⟨_, Lib.hid rfl⟩
      have NE_15_15_3 : Hid (w.heap.size ≠ W14.heap.size) := Lib.hid (Nat.ne_of_lt (Array.getElem?_eq_some_iff.1 (HX0_0.out W14 HB0_14.out)).1)
      have NE_15_15_4 : Hid (w.heap.size + 1 ≠ W14.heap.size) := Lib.hid (Nat.ne_of_lt (Array.getElem?_eq_some_iff.1 (HX1_0.out W14 HB0_14.out)).1)
      have NE_15_15_5 : Hid (w.heap.size + 1 + 1 ≠ W14.heap.size) := Lib.hid (Nat.ne_of_lt (Array.getElem?_eq_some_iff.1 (HX2_0.out W14 HB0_14.out)).1)
      have NE_15_15_7 : Hid (W2.heap.size ≠ W14.heap.size) := Lib.hid (Nat.ne_of_lt (Array.getElem?_eq_some_iff.1 (HX7_3.out W14 HB3_14.out)).1)
      have NE_15_15_9 : Hid (W4.heap.size ≠ W14.heap.size) := Lib.hid (Nat.ne_of_lt (Array.getElem?_eq_some_iff.1 (HX9_5.out W14 HB5_14.out)).1)
      have NE_15_15_11 : Hid (W6.heap.size ≠ W14.heap.size) := Lib.hid (Nat.ne_of_lt (Array.getElem?_eq_some_iff.1 (HX11_7.out W14 HB7_14.out)).1)
      have NE_15_15_13 : Hid (W8.heap.size ≠ W14.heap.size) := Lib.hid (Nat.ne_of_lt (Array.getElem?_eq_some_iff.1 (HX13_9.out W14 HB9_14.out)).1)
      have LE_15 : Hid (w.heap.size ≤ W14.heap.size) := Lib.hid HBw14.out.size
      have HBw15 : Hid (Below w.heap.size w W15) := Lib.hid (HBw14.out.trans ((by rw [← HW15.out]; exact (Below.refl _ _).alloc (Nat.le_refl _) _ : Below W14.heap.size W14 W15).mono HBw14.out.size))
      have HB0_15 : Hid (Below W0.heap.size W0 W15) := Lib.hid (HB0_14.out.trans ((by rw [← HW15.out]; exact (Below.refl _ _).alloc (Nat.le_refl _) _ : Below W14.heap.size W14 W15).mono HB0_14.out.size))
      have HB1_15 : Hid (Below W1.heap.size W1 W15) := Lib.hid (HB1_14.out.trans ((by rw [← HW15.out]; exact (Below.refl _ _).alloc (Nat.le_refl _) _ : Below W14.heap.size W14 W15).mono HB1_14.out.size))
      have HB2_15 : Hid (Below W2.heap.size W2 W15) := Lib.hid (HB2_14.out.trans ((by rw [← HW15.out]; exact (Below.refl _ _).alloc (Nat.le_refl _) _ : Below W14.heap.size W14 W15).mono HB2_14.out.size))
      have HB3_15 : Hid (Below W3.heap.size W3 W15) := Lib.hid (HB3_14.out.trans ((by rw [← HW15.out]; exact (Below.refl _ _).alloc (Nat.le_refl _) _ : Below W14.heap.size W14 W15).mono HB3_14.out.size))
      have HB4_15 : Hid (Below W4.heap.size W4 W15) := Lib.hid (HB4_14.out.trans ((by rw [← HW15.out]; exact (Below.refl _ _).alloc (Nat.le_refl _) _ : Below W14.heap.size W14 W15).mono HB4_14.out.size))
      have HB5_15 : Hid (Below W5.heap.size W5 W15) := Lib.hid (HB5_14.out.trans ((by rw [← HW15.out]; exact (Below.refl _ _).alloc (Nat.le_refl _) _ : Below W14.heap.size W14 W15).mono HB5_14.out.size))
      have HB6_15 : Hid (Below W6.heap.size W6 W15) := Lib.hid (HB6_14.out.trans ((by rw [← HW15.out]; exact (Below.refl _ _).alloc (Nat.le_refl _) _ : Below W14.heap.size W14 W15).mono HB6_14.out.size))
      have HB7_15 : Hid (Below W7.heap.size W7 W15) := Lib.hid (HB7_14.out.trans ((by rw [← HW15.out]; exact (Below.refl _ _).alloc (Nat.le_refl _) _ : Below W14.heap.size W14 W15).mono HB7_14.out.size))
      have HB8_15 : Hid (Below W8.heap.size W8 W15) := Lib.hid (HB8_14.out.trans ((by rw [← HW15.out]; exact (Below.refl _ _).alloc (Nat.le_refl _) _ : Below W14.heap.size W14 W15).mono HB8_14.out.size))
      have HB9_15 : Hid (Below W9.heap.size W9 W15) := Lib.hid (HB9_14.out.trans ((by rw [← HW15.out]; exact (Below.refl _ _).alloc (Nat.le_refl _) _ : Below W14.heap.size W14 W15).mono HB9_14.out.size))
      have HB10_15 : Hid (Below W10.heap.size W10 W15) := Lib.hid (HB10_14.out.trans ((by rw [← HW15.out]; exact (Below.refl _ _).alloc (Nat.le_refl _) _ : Below W14.heap.size W14 W15).mono HB10_14.out.size))
      have HB11_15 : Hid (Below W11.heap.size W11 W15) := Lib.hid (HB11_14.out.trans ((by rw [← HW15.out]; exact (Below.refl _ _).alloc (Nat.le_refl _) _ : Below W14.heap.size W14 W15).mono HB11_14.out.size))
      have HB12_15 : Hid (Below W12.heap.size W12 W15) := Lib.hid (HB12_14.out.trans ((by rw [← HW15.out]; exact (Below.refl _ _).alloc (Nat.le_refl _) _ : Below W14.heap.size W14 W15).mono HB12_14.out.size))
      have HB13_15 : Hid (Below W13.heap.size W13 W15) := Lib.hid (HB13_14.out.trans ((by rw [← HW15.out]; exact (Below.refl _ _).alloc (Nat.le_refl _) _ : Below W14.heap.size W14 W15).mono HB13_14.out.size))
      have HB14_15 : Hid (Below W14.heap.size W14 W15) := Lib.hid (by rw [← HW15.out]; exact (Below.refl _ _).alloc (Nat.le_refl _) _)
      have HX15_15 : Hid (∀ W, Below W15.heap.size W15 W → W.heap[W14.heap.size]? = some (.cells #[.int .i64 dp2, .int .i64 db2, .int .i64 ds2, .int .i64 dn2] 23 (0, 0))) := Lib.hid (fun W hb => (hb.block _ (by rw [← HW15.out]; simp)).trans (by rw [← HW15.out]; exact heap_alloc_new _ _))
      rw [HW15.out]
      obtain ⟨⟨⟨dp3, db3, ds3, dn3⟩, e3⟩, hh⟩ : ∃ x, come ⟨cp, cb, cs, cn⟩ ⟨iP, aP, yP, dP, qP, pP, fP, phP, mP, rP, vP, gP⟩ = x := ⟨_, rfl⟩
      have HD3 := Lib.hid hh
      have HF3 : Hid ((⟨dp3, db3, ds3, dn3⟩ : Ce).fine) := Lib.hid (come_fine HF.out hh)
      clear hh
      obtain ⟨k3_0, k3_1, k3_2, k3_3⟩ := cells4 (HX0_0.out W15 HB0_15.out)
      obtain ⟨k5_0, k5_1, k5_2, k5_3, k5_4, k5_5, k5_6, k5_7, k5_8, k5_9, k5_10, k5_11⟩ := order.cells12 (HX2_0.out W15 HB0_15.out)
      go_wp2_with fail
      refine Calls.mono (come_is cp cb cs cn iP aP yP dP qP pP fP phP mP rP vP gP HF.out HFP.out HD3.out _) ?_
      rintro e16 W16 ⟨rfl, hb⟩
      have HBw16 : Hid (Below w.heap.size w W16) := Lib.hid (HBw15.out.trans ((hb : Below W15.heap.size W15 W16).mono HBw15.out.size))
      have HB0_16 : Hid (Below W0.heap.size W0 W16) := Lib.hid (HB0_15.out.trans ((hb : Below W15.heap.size W15 W16).mono HB0_15.out.size))
      have HB1_16 : Hid (Below W1.heap.size W1 W16) := Lib.hid (HB1_15.out.trans ((hb : Below W15.heap.size W15 W16).mono HB1_15.out.size))
      have HB2_16 : Hid (Below W2.heap.size W2 W16) := Lib.hid (HB2_15.out.trans ((hb : Below W15.heap.size W15 W16).mono HB2_15.out.size))
      have HB3_16 : Hid (Below W3.heap.size W3 W16) := Lib.hid (HB3_15.out.trans ((hb : Below W15.heap.size W15 W16).mono HB3_15.out.size))
      have HB4_16 : Hid (Below W4.heap.size W4 W16) := Lib.hid (HB4_15.out.trans ((hb : Below W15.heap.size W15 W16).mono HB4_15.out.size))
      have HB5_16 : Hid (Below W5.heap.size W5 W16) := Lib.hid (HB5_15.out.trans ((hb : Below W15.heap.size W15 W16).mono HB5_15.out.size))
      have HB6_16 : Hid (Below W6.heap.size W6 W16) := Lib.hid (HB6_15.out.trans ((hb : Below W15.heap.size W15 W16).mono HB6_15.out.size))
      have HB7_16 : Hid (Below W7.heap.size W7 W16) := Lib.hid (HB7_15.out.trans ((hb : Below W15.heap.size W15 W16).mono HB7_15.out.size))
      have HB8_16 : Hid (Below W8.heap.size W8 W16) := Lib.hid (HB8_15.out.trans ((hb : Below W15.heap.size W15 W16).mono HB8_15.out.size))
      have HB9_16 : Hid (Below W9.heap.size W9 W16) := Lib.hid (HB9_15.out.trans ((hb : Below W15.heap.size W15 W16).mono HB9_15.out.size))
      have HB10_16 : Hid (Below W10.heap.size W10 W16) := Lib.hid (HB10_15.out.trans ((hb : Below W15.heap.size W15 W16).mono HB10_15.out.size))
      have HB11_16 : Hid (Below W11.heap.size W11 W16) := Lib.hid (HB11_15.out.trans ((hb : Below W15.heap.size W15 W16).mono HB11_15.out.size))
      have HB12_16 : Hid (Below W12.heap.size W12 W16) := Lib.hid (HB12_15.out.trans ((hb : Below W15.heap.size W15 W16).mono HB12_15.out.size))
      have HB13_16 : Hid (Below W13.heap.size W13 W16) := Lib.hid (HB13_15.out.trans ((hb : Below W15.heap.size W15 W16).mono HB13_15.out.size))
      have HB14_16 : Hid (Below W14.heap.size W14 W16) := Lib.hid (HB14_15.out.trans ((hb : Below W15.heap.size W15 W16).mono HB14_15.out.size))
      have HB15_16 : Hid (Below W15.heap.size W15 W16) := Lib.hid (hb)
      clear hb
      clear k3_0 k3_1 k3_2 k3_3 k5_0 k5_1 k5_2 k5_3 k5_4 k5_5 k5_6 k5_7 k5_8 k5_9 k5_10 k5_11
      go_upto_region 15 with fail
      obtain ⟨W17, HW17⟩ : ∃ W, Hid ((W16.alloc (.cells #[.int .i64 dp3, .int .i64 db3, .int .i64 ds3, .int .i64 dn3] 23)) = W) := ⟨_, Lib.hid rfl⟩
      have NE_17_17_3 : Hid (w.heap.size ≠ W16.heap.size) := Lib.hid (Nat.ne_of_lt (Array.getElem?_eq_some_iff.1 (HX0_0.out W16 HB0_16.out)).1)
      have NE_17_17_4 : Hid (w.heap.size + 1 ≠ W16.heap.size) := Lib.hid (Nat.ne_of_lt (Array.getElem?_eq_some_iff.1 (HX1_0.out W16 HB0_16.out)).1)
      have NE_17_17_5 : Hid (w.heap.size + 1 + 1 ≠ W16.heap.size) := Lib.hid (Nat.ne_of_lt (Array.getElem?_eq_some_iff.1 (HX2_0.out W16 HB0_16.out)).1)
      have NE_17_17_7 : Hid (W2.heap.size ≠ W16.heap.size) := Lib.hid (Nat.ne_of_lt (Array.getElem?_eq_some_iff.1 (HX7_3.out W16 HB3_16.out)).1)
      have NE_17_17_9 : Hid (W4.heap.size ≠ W16.heap.size) := Lib.hid (Nat.ne_of_lt (Array.getElem?_eq_some_iff.1 (HX9_5.out W16 HB5_16.out)).1)
      have NE_17_17_11 : Hid (W6.heap.size ≠ W16.heap.size) := Lib.hid (Nat.ne_of_lt (Array.getElem?_eq_some_iff.1 (HX11_7.out W16 HB7_16.out)).1)
      have NE_17_17_13 : Hid (W8.heap.size ≠ W16.heap.size) := Lib.hid (Nat.ne_of_lt (Array.getElem?_eq_some_iff.1 (HX13_9.out W16 HB9_16.out)).1)
      have NE_17_17_15 : Hid (W14.heap.size ≠ W16.heap.size) := Lib.hid (Nat.ne_of_lt (Array.getElem?_eq_some_iff.1 (HX15_15.out W16 HB15_16.out)).1)
      have LE_17 : Hid (w.heap.size ≤ W16.heap.size) := Lib.hid HBw16.out.size
      have HBw17 : Hid (Below w.heap.size w W17) := Lib.hid (HBw16.out.trans ((by rw [← HW17.out]; exact (Below.refl _ _).alloc (Nat.le_refl _) _ : Below W16.heap.size W16 W17).mono HBw16.out.size))
      have HB0_17 : Hid (Below W0.heap.size W0 W17) := Lib.hid (HB0_16.out.trans ((by rw [← HW17.out]; exact (Below.refl _ _).alloc (Nat.le_refl _) _ : Below W16.heap.size W16 W17).mono HB0_16.out.size))
      have HB1_17 : Hid (Below W1.heap.size W1 W17) := Lib.hid (HB1_16.out.trans ((by rw [← HW17.out]; exact (Below.refl _ _).alloc (Nat.le_refl _) _ : Below W16.heap.size W16 W17).mono HB1_16.out.size))
      have HB2_17 : Hid (Below W2.heap.size W2 W17) := Lib.hid (HB2_16.out.trans ((by rw [← HW17.out]; exact (Below.refl _ _).alloc (Nat.le_refl _) _ : Below W16.heap.size W16 W17).mono HB2_16.out.size))
      have HB3_17 : Hid (Below W3.heap.size W3 W17) := Lib.hid (HB3_16.out.trans ((by rw [← HW17.out]; exact (Below.refl _ _).alloc (Nat.le_refl _) _ : Below W16.heap.size W16 W17).mono HB3_16.out.size))
      have HB4_17 : Hid (Below W4.heap.size W4 W17) := Lib.hid (HB4_16.out.trans ((by rw [← HW17.out]; exact (Below.refl _ _).alloc (Nat.le_refl _) _ : Below W16.heap.size W16 W17).mono HB4_16.out.size))
      have HB5_17 : Hid (Below W5.heap.size W5 W17) := Lib.hid (HB5_16.out.trans ((by rw [← HW17.out]; exact (Below.refl _ _).alloc (Nat.le_refl _) _ : Below W16.heap.size W16 W17).mono HB5_16.out.size))
      have HB6_17 : Hid (Below W6.heap.size W6 W17) := Lib.hid (HB6_16.out.trans ((by rw [← HW17.out]; exact (Below.refl _ _).alloc (Nat.le_refl _) _ : Below W16.heap.size W16 W17).mono HB6_16.out.size))
      have HB7_17 : Hid (Below W7.heap.size W7 W17) := Lib.hid (HB7_16.out.trans ((by rw [← HW17.out]; exact (Below.refl _ _).alloc (Nat.le_refl _) _ : Below W16.heap.size W16 W17).mono HB7_16.out.size))
      have HB8_17 : Hid (Below W8.heap.size W8 W17) := Lib.hid (HB8_16.out.trans ((by rw [← HW17.out]; exact (Below.refl _ _).alloc (Nat.le_refl _) _ : Below W16.heap.size W16 W17).mono HB8_16.out.size))
      have HB9_17 : Hid (Below W9.heap.size W9 W17) := Lib.hid (HB9_16.out.trans ((by rw [← HW17.out]; exact (Below.refl _ _).alloc (Nat.le_refl _) _ : Below W16.heap.size W16 W17).mono HB9_16.out.size))
      have HB10_17 : Hid (Below W10.heap.size W10 W17) := Lib.hid (HB10_16.out.trans ((by rw [← HW17.out]; exact (Below.refl _ _).alloc (Nat.le_refl _) _ : Below W16.heap.size W16 W17).mono HB10_16.out.size))
      have HB11_17 : Hid (Below W11.heap.size W11 W17) := Lib.hid (HB11_16.out.trans ((by rw [← HW17.out]; exact (Below.refl _ _).alloc (Nat.le_refl _) _ : Below W16.heap.size W16 W17).mono HB11_16.out.size))
      have HB12_17 : Hid (Below W12.heap.size W12 W17) := Lib.hid (HB12_16.out.trans ((by rw [← HW17.out]; exact (Below.refl _ _).alloc (Nat.le_refl _) _ : Below W16.heap.size W16 W17).mono HB12_16.out.size))
      have HB13_17 : Hid (Below W13.heap.size W13 W17) := Lib.hid (HB13_16.out.trans ((by rw [← HW17.out]; exact (Below.refl _ _).alloc (Nat.le_refl _) _ : Below W16.heap.size W16 W17).mono HB13_16.out.size))
      have HB14_17 : Hid (Below W14.heap.size W14 W17) := Lib.hid (HB14_16.out.trans ((by rw [← HW17.out]; exact (Below.refl _ _).alloc (Nat.le_refl _) _ : Below W16.heap.size W16 W17).mono HB14_16.out.size))
      have HB15_17 : Hid (Below W15.heap.size W15 W17) := Lib.hid (HB15_16.out.trans ((by rw [← HW17.out]; exact (Below.refl _ _).alloc (Nat.le_refl _) _ : Below W16.heap.size W16 W17).mono HB15_16.out.size))
      have HB16_17 : Hid (Below W16.heap.size W16 W17) := Lib.hid (by rw [← HW17.out]; exact (Below.refl _ _).alloc (Nat.le_refl _) _)
      have HX17_17 : Hid (∀ W, Below W17.heap.size W17 W → W.heap[W16.heap.size]? = some (.cells #[.int .i64 dp3, .int .i64 db3, .int .i64 ds3, .int .i64 dn3] 23 (0, 0))) := Lib.hid (fun W hb => (hb.block _ (by rw [← HW17.out]; simp)).trans (by rw [← HW17.out]; exact heap_alloc_new _ _))
      rw [HW17.out]
      rcases eq_cases e2 0 with ⟨HEz11, hez11, hfz11⟩ | ⟨HEz11, hez11, hfz11⟩
      · obtain rfl : e2 = 0 := HEz11.out
        obtain rfl : e3 = 0 := by obtain ⟨rr, hrr⟩ := come_less HF.out HD1.out HD2.out; rw [HD3.out] at hrr; simp only [Prod.mk.injEq] at hrr; exact hrr.2
        obtain ⟨k17_0, k17_1, k17_2, k17_3⟩ := cells4 (HX17_17.out W17 (Below.refl _ _))
        obtain ⟨k4_0, k4_1, k4_2, k4_3, k4_4, k4_5, k4_6, k4_7, k4_8, k4_9, k4_10, k4_11⟩ := order.cells12 (HX1_0.out W17 HB0_17.out)
        go_wp2_with fail
        refine Calls.mono (come_is dp3 db3 ds3 dn3 i a y d q p f ph m r v g HF3.out HFO.out (come_two HD1.out HD2.out HD3.out) _) ?_
        rintro e18 W18 ⟨rfl, hb⟩
        have HBw18 : Hid (Below w.heap.size w W18) := Lib.hid (HBw17.out.trans ((hb : Below W17.heap.size W17 W18).mono HBw17.out.size))
        have HB0_18 : Hid (Below W0.heap.size W0 W18) := Lib.hid (HB0_17.out.trans ((hb : Below W17.heap.size W17 W18).mono HB0_17.out.size))
        have HB1_18 : Hid (Below W1.heap.size W1 W18) := Lib.hid (HB1_17.out.trans ((hb : Below W17.heap.size W17 W18).mono HB1_17.out.size))
        have HB2_18 : Hid (Below W2.heap.size W2 W18) := Lib.hid (HB2_17.out.trans ((hb : Below W17.heap.size W17 W18).mono HB2_17.out.size))
        have HB3_18 : Hid (Below W3.heap.size W3 W18) := Lib.hid (HB3_17.out.trans ((hb : Below W17.heap.size W17 W18).mono HB3_17.out.size))
        have HB4_18 : Hid (Below W4.heap.size W4 W18) := Lib.hid (HB4_17.out.trans ((hb : Below W17.heap.size W17 W18).mono HB4_17.out.size))
        have HB5_18 : Hid (Below W5.heap.size W5 W18) := Lib.hid (HB5_17.out.trans ((hb : Below W17.heap.size W17 W18).mono HB5_17.out.size))
        have HB6_18 : Hid (Below W6.heap.size W6 W18) := Lib.hid (HB6_17.out.trans ((hb : Below W17.heap.size W17 W18).mono HB6_17.out.size))
        have HB7_18 : Hid (Below W7.heap.size W7 W18) := Lib.hid (HB7_17.out.trans ((hb : Below W17.heap.size W17 W18).mono HB7_17.out.size))
        have HB8_18 : Hid (Below W8.heap.size W8 W18) := Lib.hid (HB8_17.out.trans ((hb : Below W17.heap.size W17 W18).mono HB8_17.out.size))
        have HB9_18 : Hid (Below W9.heap.size W9 W18) := Lib.hid (HB9_17.out.trans ((hb : Below W17.heap.size W17 W18).mono HB9_17.out.size))
        have HB10_18 : Hid (Below W10.heap.size W10 W18) := Lib.hid (HB10_17.out.trans ((hb : Below W17.heap.size W17 W18).mono HB10_17.out.size))
        have HB11_18 : Hid (Below W11.heap.size W11 W18) := Lib.hid (HB11_17.out.trans ((hb : Below W17.heap.size W17 W18).mono HB11_17.out.size))
        have HB12_18 : Hid (Below W12.heap.size W12 W18) := Lib.hid (HB12_17.out.trans ((hb : Below W17.heap.size W17 W18).mono HB12_17.out.size))
        have HB13_18 : Hid (Below W13.heap.size W13 W18) := Lib.hid (HB13_17.out.trans ((hb : Below W17.heap.size W17 W18).mono HB13_17.out.size))
        have HB14_18 : Hid (Below W14.heap.size W14 W18) := Lib.hid (HB14_17.out.trans ((hb : Below W17.heap.size W17 W18).mono HB14_17.out.size))
        have HB15_18 : Hid (Below W15.heap.size W15 W18) := Lib.hid (HB15_17.out.trans ((hb : Below W17.heap.size W17 W18).mono HB15_17.out.size))
        have HB16_18 : Hid (Below W16.heap.size W16 W18) := Lib.hid (HB16_17.out.trans ((hb : Below W17.heap.size W17 W18).mono HB16_17.out.size))
        have HB17_18 : Hid (Below W17.heap.size W17 W18) := Lib.hid (hb)
        clear hb
        clear k17_0 k17_1 k17_2 k17_3 k4_0 k4_1 k4_2 k4_3 k4_4 k4_5 k4_6 k4_7 k4_8 k4_9 k4_10 k4_11
        go_upto_region 18 with fail
        obtain ⟨W19, HW19⟩ : ∃ W, Hid ((W18.alloc (.cells #[.int .i64 dp2, .int .i64 db2, .int .i64 ds2, .int .i64 dn2] 23)) = W) := ⟨_, Lib.hid rfl⟩
        have NE_19_19_3 : Hid (w.heap.size ≠ W18.heap.size) := Lib.hid (Nat.ne_of_lt (Array.getElem?_eq_some_iff.1 (HX0_0.out W18 HB0_18.out)).1)
        have NE_19_19_4 : Hid (w.heap.size + 1 ≠ W18.heap.size) := Lib.hid (Nat.ne_of_lt (Array.getElem?_eq_some_iff.1 (HX1_0.out W18 HB0_18.out)).1)
        have NE_19_19_5 : Hid (w.heap.size + 1 + 1 ≠ W18.heap.size) := Lib.hid (Nat.ne_of_lt (Array.getElem?_eq_some_iff.1 (HX2_0.out W18 HB0_18.out)).1)
        have NE_19_19_7 : Hid (W2.heap.size ≠ W18.heap.size) := Lib.hid (Nat.ne_of_lt (Array.getElem?_eq_some_iff.1 (HX7_3.out W18 HB3_18.out)).1)
        have NE_19_19_9 : Hid (W4.heap.size ≠ W18.heap.size) := Lib.hid (Nat.ne_of_lt (Array.getElem?_eq_some_iff.1 (HX9_5.out W18 HB5_18.out)).1)
        have NE_19_19_11 : Hid (W6.heap.size ≠ W18.heap.size) := Lib.hid (Nat.ne_of_lt (Array.getElem?_eq_some_iff.1 (HX11_7.out W18 HB7_18.out)).1)
        have NE_19_19_13 : Hid (W8.heap.size ≠ W18.heap.size) := Lib.hid (Nat.ne_of_lt (Array.getElem?_eq_some_iff.1 (HX13_9.out W18 HB9_18.out)).1)
        have NE_19_19_15 : Hid (W14.heap.size ≠ W18.heap.size) := Lib.hid (Nat.ne_of_lt (Array.getElem?_eq_some_iff.1 (HX15_15.out W18 HB15_18.out)).1)
        have NE_19_19_17 : Hid (W16.heap.size ≠ W18.heap.size) := Lib.hid (Nat.ne_of_lt (Array.getElem?_eq_some_iff.1 (HX17_17.out W18 HB17_18.out)).1)
        have LE_19 : Hid (w.heap.size ≤ W18.heap.size) := Lib.hid HBw18.out.size
        have HBw19 : Hid (Below w.heap.size w W19) := Lib.hid (HBw18.out.trans ((by rw [← HW19.out]; exact (Below.refl _ _).alloc (Nat.le_refl _) _ : Below W18.heap.size W18 W19).mono HBw18.out.size))
        have HB0_19 : Hid (Below W0.heap.size W0 W19) := Lib.hid (HB0_18.out.trans ((by rw [← HW19.out]; exact (Below.refl _ _).alloc (Nat.le_refl _) _ : Below W18.heap.size W18 W19).mono HB0_18.out.size))
        have HB1_19 : Hid (Below W1.heap.size W1 W19) := Lib.hid (HB1_18.out.trans ((by rw [← HW19.out]; exact (Below.refl _ _).alloc (Nat.le_refl _) _ : Below W18.heap.size W18 W19).mono HB1_18.out.size))
        have HB2_19 : Hid (Below W2.heap.size W2 W19) := Lib.hid (HB2_18.out.trans ((by rw [← HW19.out]; exact (Below.refl _ _).alloc (Nat.le_refl _) _ : Below W18.heap.size W18 W19).mono HB2_18.out.size))
        have HB3_19 : Hid (Below W3.heap.size W3 W19) := Lib.hid (HB3_18.out.trans ((by rw [← HW19.out]; exact (Below.refl _ _).alloc (Nat.le_refl _) _ : Below W18.heap.size W18 W19).mono HB3_18.out.size))
        have HB4_19 : Hid (Below W4.heap.size W4 W19) := Lib.hid (HB4_18.out.trans ((by rw [← HW19.out]; exact (Below.refl _ _).alloc (Nat.le_refl _) _ : Below W18.heap.size W18 W19).mono HB4_18.out.size))
        have HB5_19 : Hid (Below W5.heap.size W5 W19) := Lib.hid (HB5_18.out.trans ((by rw [← HW19.out]; exact (Below.refl _ _).alloc (Nat.le_refl _) _ : Below W18.heap.size W18 W19).mono HB5_18.out.size))
        have HB6_19 : Hid (Below W6.heap.size W6 W19) := Lib.hid (HB6_18.out.trans ((by rw [← HW19.out]; exact (Below.refl _ _).alloc (Nat.le_refl _) _ : Below W18.heap.size W18 W19).mono HB6_18.out.size))
        have HB7_19 : Hid (Below W7.heap.size W7 W19) := Lib.hid (HB7_18.out.trans ((by rw [← HW19.out]; exact (Below.refl _ _).alloc (Nat.le_refl _) _ : Below W18.heap.size W18 W19).mono HB7_18.out.size))
        have HB8_19 : Hid (Below W8.heap.size W8 W19) := Lib.hid (HB8_18.out.trans ((by rw [← HW19.out]; exact (Below.refl _ _).alloc (Nat.le_refl _) _ : Below W18.heap.size W18 W19).mono HB8_18.out.size))
        have HB9_19 : Hid (Below W9.heap.size W9 W19) := Lib.hid (HB9_18.out.trans ((by rw [← HW19.out]; exact (Below.refl _ _).alloc (Nat.le_refl _) _ : Below W18.heap.size W18 W19).mono HB9_18.out.size))
        have HB10_19 : Hid (Below W10.heap.size W10 W19) := Lib.hid (HB10_18.out.trans ((by rw [← HW19.out]; exact (Below.refl _ _).alloc (Nat.le_refl _) _ : Below W18.heap.size W18 W19).mono HB10_18.out.size))
        have HB11_19 : Hid (Below W11.heap.size W11 W19) := Lib.hid (HB11_18.out.trans ((by rw [← HW19.out]; exact (Below.refl _ _).alloc (Nat.le_refl _) _ : Below W18.heap.size W18 W19).mono HB11_18.out.size))
        have HB12_19 : Hid (Below W12.heap.size W12 W19) := Lib.hid (HB12_18.out.trans ((by rw [← HW19.out]; exact (Below.refl _ _).alloc (Nat.le_refl _) _ : Below W18.heap.size W18 W19).mono HB12_18.out.size))
        have HB13_19 : Hid (Below W13.heap.size W13 W19) := Lib.hid (HB13_18.out.trans ((by rw [← HW19.out]; exact (Below.refl _ _).alloc (Nat.le_refl _) _ : Below W18.heap.size W18 W19).mono HB13_18.out.size))
        have HB14_19 : Hid (Below W14.heap.size W14 W19) := Lib.hid (HB14_18.out.trans ((by rw [← HW19.out]; exact (Below.refl _ _).alloc (Nat.le_refl _) _ : Below W18.heap.size W18 W19).mono HB14_18.out.size))
        have HB15_19 : Hid (Below W15.heap.size W15 W19) := Lib.hid (HB15_18.out.trans ((by rw [← HW19.out]; exact (Below.refl _ _).alloc (Nat.le_refl _) _ : Below W18.heap.size W18 W19).mono HB15_18.out.size))
        have HB16_19 : Hid (Below W16.heap.size W16 W19) := Lib.hid (HB16_18.out.trans ((by rw [← HW19.out]; exact (Below.refl _ _).alloc (Nat.le_refl _) _ : Below W18.heap.size W18 W19).mono HB16_18.out.size))
        have HB17_19 : Hid (Below W17.heap.size W17 W19) := Lib.hid (HB17_18.out.trans ((by rw [← HW19.out]; exact (Below.refl _ _).alloc (Nat.le_refl _) _ : Below W18.heap.size W18 W19).mono HB17_18.out.size))
        have HB18_19 : Hid (Below W18.heap.size W18 W19) := Lib.hid (by rw [← HW19.out]; exact (Below.refl _ _).alloc (Nat.le_refl _) _)
        have HX19_19 : Hid (∀ W, Below W19.heap.size W19 W → W.heap[W18.heap.size]? = some (.cells #[.int .i64 dp2, .int .i64 db2, .int .i64 ds2, .int .i64 dn2] 23 (0, 0))) := Lib.hid (fun W hb => (hb.block _ (by rw [← HW19.out]; simp)).trans (by rw [← HW19.out]; exact heap_alloc_new _ _))
        rw [HW19.out]
        have heq12 : ∀ W, (Op.equalIn 10000 23 (.agg #[.int .i64 dp2, .int .i64 db2, .int .i64 ds2, .int .i64 dn2]) (.agg #[.int .i64 dp2, .int .i64 db2, .int .i64 ds2, .int .i64 dn2])).run Try.prog W = .ok true W := fun W => eq4_of rfl rfl HF2.out HF2.out (decide_eq_true rfl) W
        obtain ⟨k19_0, k19_1, k19_2, k19_3⟩ := cells4 (HX19_19.out W19 (Below.refl _ _))
        obtain ⟨k15_0, k15_1, k15_2, k15_3⟩ := cells4 (HX15_15.out W19 HB15_19.out)
        go_wp2_with fail
        go_ret
        exact ⟨rec.retB (by first | rfl | (simp; done) | (simp; omega)), HBw19.out⟩
      · go_wp2_with fail
        go_ret
        exact ⟨rec.retB (by first | rfl | (simp; done) | (simp; omega)), HBw17.out⟩
  · have heq13 : ∀ W, (Op.equalIn 10000 23 (.agg #[.int .i64 dp1, .int .i64 db1, .int .i64 ds1, .int .i64 dn1]) (.agg #[.int .i64 cp, .int .i64 cb, .int .i64 cs, .int .i64 cn])).run Try.prog W = .ok true W := fun W => eq4_of rfl rfl HF1.out HF.out (decide_eq_true ((come_err HD1.out).resolve_left HEz1.out).1) W
    obtain ⟨k7_0, k7_1, k7_2, k7_3⟩ := cells4 (HX7_3.out W3 (Below.refl _ _))
    obtain ⟨k3_0, k3_1, k3_2, k3_3⟩ := cells4 (HX0_0.out W3 HB0_3.out)
    go_wp2_with fail
    go_ret
    exact ⟨rec.retB (by first | rfl | (simp; done) | (simp; omega)), HBw3.out⟩
  -- WALK ENDS

set_option maxRecDepth 100000 in
theorem lifted (os : Os) (started : os.Started) (H : Type) (enc : TypeId × Value → H) :
    ReturnsInHanded {} Try.checked os 4 .any (Rows.cellBackSpec.pre6 enc Try.prog Try.f4 Rows.cellBackRow.domain false) (Rows.cellBackSpec.post enc Try.prog Try.f4 false true false false) := by
  refine returnsInHanded_of_change (C := Try.checked) own started (by kernel_rfl) Try.func4
    (ChangeSpec.witness6 (enc := enc) (C := Try.checked) false ⟨#[], #[.agg #[.int .i64 0, .int .i64 0, .int .i64 0, .int .i64 0], .agg #[.int .i64 0, .int .i64 0, .int .i64 0, .int .i64 0, .int .i64 0, .int .i64 0, .int .i64 0, .int .i64 0, .int .i64 0, .int .i64 0, .int .i64 0, .bool false], .agg #[.int .i64 0, .int .i64 0, .int .i64 0, .int .i64 0, .int .i64 0, .int .i64 0, .int .i64 0, .int .i64 0, .int .i64 0, .int .i64 0, .int .i64 0, .bool false]], []⟩ 8 (by kernel_rfl) (by kernel_rfl) (by kernel_rfl) (by kernel_rfl)) ?_
  intro W base args ds gs before hval0 hW hcnd _
  have hval : ∀ (j : Nat) t v, Try.f4.params[j]? = some t → args[j]? = some v → Value.okWide Try.prog W .any base t v := hval0
  have hW' := hW
  obtain ⟨p, q, hA0, hV, rfl, hfz, hnd⟩ := hW
  have hA : DataW.TrodAll enc Try.prog W 0 (fun _ => true) true Try.f4.params.toList args.toList ds p := hA0
  rw [Try.params4] at hA hval
  obtain ⟨v0, vs0, d0, ds0, p0_, q0, hargs, rfl, rfl, h0, r0⟩ := trodAll_cons hA
  obtain ⟨v1, vs1, d1, ds1, p1_, q1, rfl, rfl, rfl, h1, r1⟩ := trodAll_cons r0
  obtain ⟨v2, vs2, d2, ds2, p2_, q2, rfl, rfl, rfl, h2, r2⟩ := trodAll_cons r1
  obtain ⟨rfl, rfl, rfl⟩ := trodAll_nil r2
  obtain rfl : args = #[v0, v1, v2] := by cases args; simp_all
  obtain ⟨rfl, rfl⟩ := trodVars_none hV
  obtain ⟨cs0, rfl, hsz0⟩ := okWide_struct Try.underlying23 (hval 0 23 v0 rfl rfl)
  have k0 := h0
  have lt0 : ∀ x ∈ p0_, x.block < W.heap.size := by obtain ⟨m, hm⟩ := k0; exact DataW.trod_lt m _ _ _ hm
  obtain ⟨x0, w0⟩ := of_arg of_cell k0
  obtain ⟨cs1, rfl, hsz1⟩ := okWide_struct Try.underlying25 (hval 1 25 v1 rfl rfl)
  have k1 := h1
  have lt1 : ∀ x ∈ p1_, x.block < W.heap.size := by obtain ⟨m, hm⟩ := k1; exact DataW.trod_lt m _ _ _ hm
  obtain ⟨x1, w1⟩ := of_arg of_order k1
  obtain ⟨cs2, rfl, hsz2⟩ := okWide_struct Try.underlying25 (hval 2 25 v2 rfl rfl)
  have k2 := h2
  have lt2 : ∀ x ∈ p2_, x.block < W.heap.size := by obtain ⟨m, hm⟩ := k2; exact DataW.trod_lt m _ _ _ hm
  obtain ⟨x2, w2⟩ := of_arg of_order k2
  clear hA0 hval0
  refine (walk cs0 x0 cs1 x1 cs2 x2 W w0 w1 w2).mono fun e W' ⟨he, bel⟩ => ?_
  subst he
  exact ⟨_, rfl, _, _, _, [], _, [], hW', trodAll_mk1 (shut_bool Try.underlying4 _), (trodAll_cons_mk (Below.trod laidOut (by kernel_rfl) (of_decide_eq_true (by kernel_rfl)) k0 bel lt0) (trodAll_cons_mk (Below.trod laidOut (by kernel_rfl) (of_decide_eq_true (by kernel_rfl)) k1 bel lt1) (trodAll_cons_mk (Below.trod laidOut (by kernel_rfl) (of_decide_eq_true (by kernel_rfl)) k2 bel lt2) trodAll_mk0))), rfl, bel.frame _, fun h => by cases h⟩

theorem over : Rows.cellBackRow.holds Try.pinned (OpenSpec.ofChange Rows.cellBackSpec) :=
  OpenClaim.holds_of_wide 4 Try.f4 rfl rfl rfl rfl rfl rfl rfl ⟨rfl, rfl, rfl, rfl, rfl⟩ rfl rfl rfl rfl rfl (by kernel_rfl) Try.func4 (by kernel_rfl)
    (of_decide_eq_true (by kernel_rfl)) (by unfold Func.isWrapper; first | (rw [if_pos (by decide +kernel)]; kernel_rfl) | (rw [if_neg (by decide +kernel)]; exact ⟨rfl, rfl⟩))
    (fun os started H enc _ => lifted os started H enc)

theorem proved : Rows.CellBackSaid := over
#print axioms proved
end Go.Proofs.Ytkpapjdlpjjmbaa.cellBack
