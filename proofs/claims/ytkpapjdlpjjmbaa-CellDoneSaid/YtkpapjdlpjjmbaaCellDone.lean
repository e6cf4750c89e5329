/-
  PROVED: the law CellDone answers true at every input, and leaves what it was given as it was.
  CONDITIONS: none.
-/
import Derived.Test.YtkpapjdlpjjmbaaRows
import Derived.WalkKit
import Derived.ProofKit
import Derived.OpenShut
import Derived.ShutString
import Derived.ChangeOld
import Derived.Below
import Derived.Test.YtkpapjdlpjjmbaaOrdImplT
import Derived.Deep.RegionHeld
import Derived.Deep.DrawnRows
import Derived.Deep.DeepCutAuto
import Derived.Test.YtkpapjdlpjjmbaaAwake08
import Derived.Test.YtkpapjdlpjjmbaaOrdEq
import Derived.Test.YtkpapjdlpjjmbaaCellMath2
import Derived.Test.YtkpapjdlpjjmbaaCellEq
import Derived.Test.YtkpapjdlpjjmbaaRead
namespace Go.Proofs.Ytkpapjdlpjjmbaa.cellDone
open Go.ChangeShapes Go.WideShapes Go.ChangeAt Go.RowKit
open Go.ChangeMaps (open_string shut_string)
open Go.Proofs.Ytkpapjdlpjjmbaa Go.Proofs.Ytkpapjdlpjjmbaa.cell
open Go.Proofs.Ytkpapjdlpjjmbaa.order (eq_cases)
attribute [local go_sem] undef
attribute [local go_sem ↓] Go.wp_at_zero Go.wp_at_succ
set_option linter.unusedVariables false

theorem own : ownKnob Try.prog.godebug = none := by kernel_rfl
theorem laidOut : laidOutB Try.prog = true := by kernel_rfl

set_option maxHeartbeats 8000000 in
set_option maxRecDepth 100000 in
theorem walk (cs0 : Array Value) (x0 : CellD) (cs1 : Array Value) (x1 : OrderD) (a2 : Int) (a3 : Int) (w : World) (w0 : rdCell w (Lt w.heap.size) cs0.toList x0) (w1 : rdOrder w (Lt w.heap.size) cs1.toList x1) (w2 : (Lit.int .i64 a2).wf = true) (w3 : (Lit.int .i64 a3).wf = true) :
    Calls Try.prog 5 #[.agg cs0, .agg cs1, .int .i64 a2, .int .i64 a3] w fun e w' => e = .returned (.bool true) ∧ Below w.heap.size w w' := by
  -- WALK BEGINS
  obtain ⟨hc0, hf0⟩ := w0
  obtain rfl : cs0 = cell.cc x0 := by apply Array.toList_inj.1; exact hc0
  clear hc0
  obtain ⟨cp, cb, cs, cn⟩ := x0
  obtain ⟨hc1, hf1⟩ := w1
  obtain rfl : cs1 = order.oc x1 := by apply Array.toList_inj.1; exact hc1
  clear hc1
  obtain ⟨i, a, y, d, q, p, f, ph, m, r, v, g⟩ := x1
  show Calls Try.prog 5 #[.agg #[.int .i64 cp, .int .i64 cb, .int .i64 cs, .int .i64 cn], .agg #[.int .i64 i, .int .i64 a, .int .i64 y, .int .i64 d, .int .i64 q, .int .i64 p, .int .i64 f, .int .i64 ph, .int .i64 m, .int .i64 r, .int .i64 v, .bool g], .int .i64 a2, .int .i64 a3] w _
  obtain ⟨W0, HW0⟩ : ∃ W, Hid (((w.alloc (.cells #[.int .i64 cp, .int .i64 cb, .int .i64 cs, .int .i64 cn] 23)).alloc (.cells #[.int .i64 i, .int .i64 a, .int .i64 y, .int .i64 d, .int .i64 q, .int .i64 p, .int .i64 f, .int .i64 ph, .int .i64 m, .int .i64 r, .int .i64 v, .bool g] 25)) = W) := ⟨_, Lib.hid rfl⟩
  have HBw0 : Hid (Below w.heap.size w W0) := Lib.hid (by rw [← HW0.out]; exact ((Below.refl _ _).alloc (by simp) _).alloc (by simp; try omega) _)
  have HX0_0 : Hid (∀ W, Below W0.heap.size W0 W → W.heap[w.heap.size]? = some (.cells #[.int .i64 cp, .int .i64 cb, .int .i64 cs, .int .i64 cn] 23 (0, 0))) := Lib.hid (fun W hb => (hb.block _ (by rw [← HW0.out]; simp; try omega)).trans (by rw [← HW0.out]; refine (Below.heap_alloc _ _ _ (by simp; try omega)).trans ?_; have := heap_alloc_new w (.cells #[.int .i64 cp, .int .i64 cb, .int .i64 cs, .int .i64 cn] 23); exact this))
  have HX1_0 : Hid (∀ W, Below W0.heap.size W0 W → W.heap[w.heap.size + 1]? = some (.cells #[.int .i64 i, .int .i64 a, .int .i64 y, .int .i64 d, .int .i64 q, .int .i64 p, .int .i64 f, .int .i64 ph, .int .i64 m, .int .i64 r, .int .i64 v, .bool g] 25 (0, 0))) := Lib.hid (fun W hb => (hb.block _ (by rw [← HW0.out]; simp; try omega)).trans (by rw [← HW0.out]; have := heap_alloc_new (w.alloc (.cells #[.int .i64 cp, .int .i64 cb, .int .i64 cs, .int .i64 cn] 23)) (.cells #[.int .i64 i, .int .i64 a, .int .i64 y, .int .i64 d, .int .i64 q, .int .i64 p, .int .i64 f, .int .i64 ph, .int .i64 m, .int .i64 r, .int .i64 v, .bool g] 25); simp only [World.size_alloc] at this; exact this))
  have HF := Lib.hid hf0
  have HFO := Lib.hid hf1
  have HQ : Hid (frame.inR a2) := Lib.hid (inI_of_wf w2)
  have HS : Hid (frame.inR a3) := Lib.hid (inI_of_wf w3)
  clear hf0 hf1 w2 w3
  go_enter Try.func5, Try.ntmps5
  go_upto_region 1 with fail
  rw [HW0.out]
  go_wp2_with fail
  refine Calls.mono (awake_any _) ?_
  rintro e1 W1 ⟨rfl, hb⟩
  have HBw1 : Hid (Below w.heap.size w W1) := Lib.hid (HBw0.out.trans ((hb : Below W0.heap.size W0 W1).mono HBw0.out.size))
  have HB0_1 : Hid (Below W0.heap.size W0 W1) := Lib.hid (hb)
  clear hb
  obtain ⟨⟨⟨dp1, db1, ds1, dn1⟩, e1⟩, hh⟩ : ∃ x, come ⟨cp, cb, cs, cn⟩ ⟨i, a, y, d, q, p, f, ph, m, r, v, g⟩ = x := ⟨_, rfl⟩
  have HD1 := Lib.hid hh
  have HF1 : Hid ((⟨dp1, db1, ds1, dn1⟩ : Ce).fine) := Lib.hid (come_fine HF.out hh)
  clear hh
  obtain ⟨k4_0, k4_1, k4_2, k4_3⟩ := cells4 (HX0_0.out W1 HB0_1.out)
  obtain ⟨k5_0, k5_1, k5_2, k5_3, k5_4, k5_5, k5_6, k5_7, k5_8, k5_9, k5_10, k5_11⟩ := order.cells12 (HX1_0.out W1 HB0_1.out)
  go_wp2_with fail
  refine Calls.mono (come_is cp cb cs cn i a y d q p f ph m r v g HF.out HFO.out HD1.out _) ?_
  rintro e2 W2 ⟨rfl, hb⟩
  have HBw2 : Hid (Below w.heap.size w W2) := Lib.hid (HBw1.out.trans ((hb : Below W1.heap.size W1 W2).mono HBw1.out.size))
  have HB0_2 : Hid (Below W0.heap.size W0 W2) := Lib.hid (HB0_1.out.trans ((hb : Below W1.heap.size W1 W2).mono HB0_1.out.size))
  have HB1_2 : Hid (Below W1.heap.size W1 W2) := Lib.hid (hb)
  clear hb
  clear k4_0 k4_1 k4_2 k4_3 k5_0 k5_1 k5_2 k5_3 k5_4 k5_5 k5_6 k5_7 k5_8 k5_9 k5_10 k5_11
  go_upto_region 4 with fail
  obtain ⟨W3, HW3⟩ : ∃ W, Hid ((W2.alloc (.cells #[.int .i64 dp1, .int .i64 db1, .int .i64 ds1, .int .i64 dn1] 23)) = W) := ⟨_, Lib.hid rfl⟩
  have NE_3_9_4 : Hid (w.heap.size ≠ W2.heap.size) := Lib.hid (Nat.ne_of_lt (Array.getElem?_eq_some_iff.1 (HX0_0.out W2 HB0_2.out)).1)
  have NE_3_9_5 : Hid (w.heap.size + 1 ≠ W2.heap.size) := Lib.hid (Nat.ne_of_lt (Array.getElem?_eq_some_iff.1 (HX1_0.out W2 HB0_2.out)).1)
  have LE_3 : Hid (w.heap.size ≤ W2.heap.size) := Lib.hid HBw2.out.size
  have HBw3 : Hid (Below w.heap.size w W3) := Lib.hid (HBw2.out.trans ((by rw [← HW3.out]; exact (Below.refl _ _).alloc (Nat.le_refl _) _ : Below W2.heap.size W2 W3).mono HBw2.out.size))
  have HB0_3 : Hid (Below W0.heap.size W0 W3) := Lib.hid (HB0_2.out.trans ((by rw [← HW3.out]; exact (Below.refl _ _).alloc (Nat.le_refl _) _ : Below W2.heap.size W2 W3).mono HB0_2.out.size))
  have HB1_3 : Hid (Below W1.heap.size W1 W3) := Lib.hid (HB1_2.out.trans ((by rw [← HW3.out]; exact (Below.refl _ _).alloc (Nat.le_refl _) _ : Below W2.heap.size W2 W3).mono HB1_2.out.size))
  have HB2_3 : Hid (Below W2.heap.size W2 W3) := Lib.hid (by rw [← HW3.out]; exact (Below.refl _ _).alloc (Nat.le_refl _) _)
  have HX9_3 : Hid (∀ W, Below W3.heap.size W3 W → W.heap[W2.heap.size]? = some (.cells #[.int .i64 dp1, .int .i64 db1, .int .i64 ds1, .int .i64 dn1] 23 (0, 0))) := Lib.hid (fun W hb => (hb.block _ (by rw [← HW3.out]; simp)).trans (by rw [← HW3.out]; exact heap_alloc_new _ _))
  rw [HW3.out]
  rcases eq_cases e1 0 with ⟨HEz1, hez1, hfz1⟩ | ⟨HEz1, hez1, hfz1⟩
  · obtain rfl : e1 = 0 := HEz1.out
    rcases eq_cases ph 2 with ⟨HEz2, hez2, hfz2⟩ | ⟨HEz2, hez2, hfz2⟩
    · obtain rfl : ph = 2 := HEz2.out
      by_cases hlz3 : a3 < 1
      · have HLz3 := Lib.hid hlz3
        obtain ⟨k5_0, k5_1, k5_2, k5_3, k5_4, k5_5, k5_6, k5_7, k5_8, k5_9, k5_10, k5_11⟩ := order.cells12 (HX1_0.out W3 HB0_3.out)
        go_wp2_with fail
        go_ret
        exact ⟨rec.retB (by first | rfl | (simp; done) | (simp; omega)), HBw3.out⟩
      · have HLz3 := Lib.hid hlz3
        have hnz3 : 1 ≤ a3 := by omega
        clear hlz3
        by_cases hlz4 : 1000 < a3
        · have HLz4 := Lib.hid hlz4
          obtain ⟨k5_0, k5_1, k5_2, k5_3, k5_4, k5_5, k5_6, k5_7, k5_8, k5_9, k5_10, k5_11⟩ := order.cells12 (HX1_0.out W3 HB0_3.out)
          go_wp2_with fail
          go_ret
          exact ⟨rec.retB (by first | rfl | (simp; done) | (simp; omega)), HBw3.out⟩
        · have HLz4 := Lib.hid hlz4
          have hnz4 : a3 ≤ 1000 := by omega
          clear hlz4
          obtain ⟨⟨⟨iP, aP, yP, dP, qP, pP, fP, phP, mP, rP, vP, gP⟩, eT⟩, hh⟩ : ∃ x, order.take ⟨i, a, y, d, q, p, f, 2, m, r, v, g⟩ ⟨a3, 3, i, a2, 0⟩ = x := ⟨_, rfl⟩
          have HT := Lib.hid hh
          have HFQ : Hid ((⟨iP, aP, yP, dP, qP, pP, fP, phP, mP, rP, vP, gP⟩ : order.Or).fine) := Lib.hid (order.take_fine HFO.out hh)
          clear hh
          obtain ⟨k5_0, k5_1, k5_2, k5_3, k5_4, k5_5, k5_6, k5_7, k5_8, k5_9, k5_10, k5_11⟩ := order.cells12 (HX1_0.out W3 HB0_3.out)
          go_wp2_with fail
          refine Calls.mono (order.take_is i a y d q p f 2 m r v g a3 3 i a2 0 HFO.out ⟨HS.out, by simp [frame.inR], HFO.out.1, HQ.out, by simp [frame.inR]⟩ HT.out _) ?_
          rintro e4 W4 ⟨rfl, hb⟩
          have HBw4 : Hid (Below w.heap.size w W4) := Lib.hid (HBw3.out.trans ((hb : Below W3.heap.size W3 W4).mono HBw3.out.size))
          have HB0_4 : Hid (Below W0.heap.size W0 W4) := Lib.hid (HB0_3.out.trans ((hb : Below W3.heap.size W3 W4).mono HB0_3.out.size))
          have HB1_4 : Hid (Below W1.heap.size W1 W4) := Lib.hid (HB1_3.out.trans ((hb : Below W3.heap.size W3 W4).mono HB1_3.out.size))
          have HB2_4 : Hid (Below W2.heap.size W2 W4) := Lib.hid (HB2_3.out.trans ((hb : Below W3.heap.size W3 W4).mono HB2_3.out.size))
          have HB3_4 : Hid (Below W3.heap.size W3 W4) := Lib.hid (hb)
          clear hb
          clear k5_0 k5_1 k5_2 k5_3 k5_4 k5_5 k5_6 k5_7 k5_8 k5_9 k5_10 k5_11
          go_upto_region 7 with fail
          obtain ⟨W5, HW5⟩ : ∃ W, Hid ((W4.alloc (.cells #[.int .i64 iP, .int .i64 aP, .int .i64 yP, .int .i64 dP, .int .i64 qP, .int .i64 pP, .int .i64 fP, .int .i64 phP, .int .i64 mP, .int .i64 rP, .int .i64 vP, .bool gP] 25)) = W) := ⟨_, Lib.hid rfl⟩
          have NE_5_11_4 : Hid (w.heap.size ≠ W4.heap.size) := Lib.hid (Nat.ne_of_lt (Array.getElem?_eq_some_iff.1 (HX0_0.out W4 HB0_4.out)).1)
          have NE_5_11_5 : Hid (w.heap.size + 1 ≠ W4.heap.size) := Lib.hid (Nat.ne_of_lt (Array.getElem?_eq_some_iff.1 (HX1_0.out W4 HB0_4.out)).1)
          have NE_5_11_9 : Hid (W2.heap.size ≠ W4.heap.size) := Lib.hid (Nat.ne_of_lt (Array.getElem?_eq_some_iff.1 (HX9_3.out W4 HB3_4.out)).1)
          have LE_5 : Hid (w.heap.size ≤ W4.heap.size) := Lib.hid HBw4.out.size
          have HBw5 : Hid (Below w.heap.size w W5) := Lib.hid (HBw4.out.trans ((by rw [← HW5.out]; exact (Below.refl _ _).alloc (Nat.le_refl _) _ : Below W4.heap.size W4 W5).mono HBw4.out.size))
          have HB0_5 : Hid (Below W0.heap.size W0 W5) := Lib.hid (HB0_4.out.trans ((by rw [← HW5.out]; exact (Below.refl _ _).alloc (Nat.le_refl _) _ : Below W4.heap.size W4 W5).mono HB0_4.out.size))
          have HB1_5 : Hid (Below W1.heap.size W1 W5) := Lib.hid (HB1_4.out.trans ((by rw [← HW5.out]; exact (Below.refl _ _).alloc (Nat.le_refl _) _ : Below W4.heap.size W4 W5).mono HB1_4.out.size))
          have HB2_5 : Hid (Below W2.heap.size W2 W5) := Lib.hid (HB2_4.out.trans ((by rw [← HW5.out]; exact (Below.refl _ _).alloc (Nat.le_refl _) _ : Below W4.heap.size W4 W5).mono HB2_4.out.size))
          have HB3_5 : Hid (Below W3.heap.size W3 W5) := Lib.hid (HB3_4.out.trans ((by rw [← HW5.out]; exact (Below.refl _ _).alloc (Nat.le_refl _) _ : Below W4.heap.size W4 W5).mono HB3_4.out.size))
          have HB4_5 : Hid (Below W4.heap.size W4 W5) := Lib.hid (by rw [← HW5.out]; exact (Below.refl _ _).alloc (Nat.le_refl _) _)
          have HX11_5 : Hid (∀ W, Below W5.heap.size W5 W → W.heap[W4.heap.size]? = some (.cells #[.int .i64 iP, .int .i64 aP, .int .i64 yP, .int .i64 dP, .int .i64 qP, .int .i64 pP, .int .i64 fP, .int .i64 phP, .int .i64 mP, .int .i64 rP, .int .i64 vP, .bool gP] 25 (0, 0))) := Lib.hid (fun W hb => (hb.block _ (by rw [← HW5.out]; simp)).trans (by rw [← HW5.out]; exact heap_alloc_new _ _))
          rw [HW5.out]
          rcases eq_cases eT 0 with ⟨HEz5, hez5, hfz5⟩ | ⟨HEz5, hez5, hfz5⟩
          · obtain rfl : eT = 0 := HEz5.out
            obtain ⟨k9_0, k9_1, k9_2, k9_3⟩ := cells4 (HX9_3.out W5 HB3_5.out)
            obtain ⟨k5_0, k5_1, k5_2, k5_3, k5_4, k5_5, k5_6, k5_7, k5_8, k5_9, k5_10, k5_11⟩ := order.cells12 (HX1_0.out W5 HB0_5.out)
            go_wp2_with fail
            refine Calls.mono (go_is dp1 db1 ds1 dn1 i a y d q p f 2 m r v g HF1.out HFO.out (come_go HF.out HD1.out) _) ?_
            rintro e6 W6 ⟨rfl, hb⟩
            have HBw6 : Hid (Below w.heap.size w W6) := Lib.hid (HBw5.out.trans ((hb : Below W5.heap.size W5 W6).mono HBw5.out.size))
            have HB0_6 : Hid (Below W0.heap.size W0 W6) := Lib.hid (HB0_5.out.trans ((hb : Below W5.heap.size W5 W6).mono HB0_5.out.size))
            have HB1_6 : Hid (Below W1.heap.size W1 W6) := Lib.hid (HB1_5.out.trans ((hb : Below W5.heap.size W5 W6).mono HB1_5.out.size))
            have HB2_6 : Hid (Below W2.heap.size W2 W6) := Lib.hid (HB2_5.out.trans ((hb : Below W5.heap.size W5 W6).mono HB2_5.out.size))
            have HB3_6 : Hid (Below W3.heap.size W3 W6) := Lib.hid (HB3_5.out.trans ((hb : Below W5.heap.size W5 W6).mono HB3_5.out.size))
            have HB4_6 : Hid (Below W4.heap.size W4 W6) := Lib.hid (HB4_5.out.trans ((hb : Below W5.heap.size W5 W6).mono HB4_5.out.size))
            have HB5_6 : Hid (Below W5.heap.size W5 W6) := Lib.hid (hb)
            clear hb
            clear k9_0 k9_1 k9_2 k9_3 k5_0 k5_1 k5_2 k5_3 k5_4 k5_5 k5_6 k5_7 k5_8 k5_9 k5_10 k5_11
            go_upto_region 10 with fail
            obtain ⟨W7, HW7⟩ : ∃ W, Hid ((W6.alloc (.cells #[.int .i64 cp, .int .i64 cb, .int .i64 cs, .int .i64 cn] 23)) = W) := ⟨_, Lib.hid rfl⟩
            have NE_7_13_4 : Hid (w.heap.size ≠ W6.heap.size) := Lib.hid (Nat.ne_of_lt (Array.getElem?_eq_some_iff.1 (HX0_0.out W6 HB0_6.out)).1)
            have NE_7_13_5 : Hid (w.heap.size + 1 ≠ W6.heap.size) := Lib.hid (Nat.ne_of_lt (Array.getElem?_eq_some_iff.1 (HX1_0.out W6 HB0_6.out)).1)
            have NE_7_13_9 : Hid (W2.heap.size ≠ W6.heap.size) := Lib.hid (Nat.ne_of_lt (Array.getElem?_eq_some_iff.1 (HX9_3.out W6 HB3_6.out)).1)
            have NE_7_13_11 : Hid (W4.heap.size ≠ W6.heap.size) := Lib.hid (Nat.ne_of_lt (Array.getElem?_eq_some_iff.1 (HX11_5.out W6 HB5_6.out)).1)
            have LE_7 : Hid (w.heap.size ≤ W6.heap.size) := Lib.hid HBw6.out.size
            have HBw7 : Hid (Below w.heap.size w W7) := Lib.hid (HBw6.out.trans ((by rw [← HW7.out]; exact (Below.refl _ _).alloc (Nat.le_refl _) _ : Below W6.heap.size W6 W7).mono HBw6.out.size))
            have HB0_7 : Hid (Below W0.heap.size W0 W7) := Lib.hid (HB0_6.out.trans ((by rw [← HW7.out]; exact (Below.refl _ _).alloc (Nat.le_refl _) _ : Below W6.heap.size W6 W7).mono HB0_6.out.size))
            have HB1_7 : Hid (Below W1.heap.size W1 W7) := Lib.hid (HB1_6.out.trans ((by rw [← HW7.out]; exact (Below.refl _ _).alloc (Nat.le_refl _) _ : Below W6.heap.size W6 W7).mono HB1_6.out.size))
            have HB2_7 : Hid (Below W2.heap.size W2 W7) := Lib.hid (HB2_6.out.trans ((by rw [← HW7.out]; exact (Below.refl _ _).alloc (Nat.le_refl _) _ : Below W6.heap.size W6 W7).mono HB2_6.out.size))
            have HB3_7 : Hid (Below W3.heap.size W3 W7) := Lib.hid (HB3_6.out.trans ((by rw [← HW7.out]; exact (Below.refl _ _).alloc (Nat.le_refl _) _ : Below W6.heap.size W6 W7).mono HB3_6.out.size))
            have HB4_7 : Hid (Below W4.heap.size W4 W7) := Lib.hid (HB4_6.out.trans ((by rw [← HW7.out]; exact (Below.refl _ _).alloc (Nat.le_refl _) _ : Below W6.heap.size W6 W7).mono HB4_6.out.size))
            have HB5_7 : Hid (Below W5.heap.size W5 W7) := Lib.hid (HB5_6.out.trans ((by rw [← HW7.out]; exact (Below.refl _ _).alloc (Nat.le_refl _) _ : Below W6.heap.size W6 W7).mono HB5_6.out.size))
            have HB6_7 : Hid (Below W6.heap.size W6 W7) := Lib.hid (by rw [← HW7.out]; exact (Below.refl _ _).alloc (Nat.le_refl _) _)
            have HX13_7 : Hid (∀ W, Below W7.heap.size W7 W → W.heap[W6.heap.size]? = some (.cells #[.int .i64 cp, .int .i64 cb, .int .i64 cs, .int .i64 cn] 23 (0, 0))) := Lib.hid (fun W hb => (hb.block _ (by rw [← HW7.out]; simp)).trans (by rw [← HW7.out]; exact heap_alloc_new _ _))
            rw [HW7.out]
            have HOd : Hid (of_ ⟨dp1, db1, ds1, dn1⟩ = (⟨(dp1 + db1), (ds1 - dp1), dn1⟩, 0)) := Lib.hid (come_of HD1.out).2.1
            obtain ⟨k9_0, k9_1, k9_2, k9_3⟩ := cells4 (HX9_3.out W7 HB3_7.out)
            go_wp2_with fail
            refine Calls.mono (of_is dp1 db1 ds1 dn1 HF1.out HOd.out _) ?_
            rintro e8 W8 ⟨rfl, hb⟩
            have HBw8 : Hid (Below w.heap.size w W8) := Lib.hid (HBw7.out.trans ((hb : Below W7.heap.size W7 W8).mono HBw7.out.size))
            have HB0_8 : Hid (Below W0.heap.size W0 W8) := Lib.hid (HB0_7.out.trans ((hb : Below W7.heap.size W7 W8).mono HB0_7.out.size))
            have HB1_8 : Hid (Below W1.heap.size W1 W8) := Lib.hid (HB1_7.out.trans ((hb : Below W7.heap.size W7 W8).mono HB1_7.out.size))
            have HB2_8 : Hid (Below W2.heap.size W2 W8) := Lib.hid (HB2_7.out.trans ((hb : Below W7.heap.size W7 W8).mono HB2_7.out.size))
            have HB3_8 : Hid (Below W3.heap.size W3 W8) := Lib.hid (HB3_7.out.trans ((hb : Below W7.heap.size W7 W8).mono HB3_7.out.size))
            have HB4_8 : Hid (Below W4.heap.size W4 W8) := Lib.hid (HB4_7.out.trans ((hb : Below W7.heap.size W7 W8).mono HB4_7.out.size))
            have HB5_8 : Hid (Below W5.heap.size W5 W8) := Lib.hid (HB5_7.out.trans ((hb : Below W7.heap.size W7 W8).mono HB5_7.out.size))
            have HB6_8 : Hid (Below W6.heap.size W6 W8) := Lib.hid (HB6_7.out.trans ((hb : Below W7.heap.size W7 W8).mono HB6_7.out.size))
            have HB7_8 : Hid (Below W7.heap.size W7 W8) := Lib.hid (hb)
            clear hb
            clear k9_0 k9_1 k9_2 k9_3
            go_upto_region 11 with fail
            obtain ⟨W9, HW9⟩ : ∃ W, Hid ((W8.alloc (.cells #[.int .i64 (dp1 + db1), .int .i64 (ds1 - dp1), .int .i64 dn1] 27)) = W) := ⟨_, Lib.hid rfl⟩
            have NE_9_15_4 : Hid (w.heap.size ≠ W8.heap.size) := Lib.hid (Nat.ne_of_lt (Array.getElem?_eq_some_iff.1 (HX0_0.out W8 HB0_8.out)).1)
            have NE_9_15_5 : Hid (w.heap.size + 1 ≠ W8.heap.size) := Lib.hid (Nat.ne_of_lt (Array.getElem?_eq_some_iff.1 (HX1_0.out W8 HB0_8.out)).1)
            have NE_9_15_9 : Hid (W2.heap.size ≠ W8.heap.size) := Lib.hid (Nat.ne_of_lt (Array.getElem?_eq_some_iff.1 (HX9_3.out W8 HB3_8.out)).1)
            have NE_9_15_11 : Hid (W4.heap.size ≠ W8.heap.size) := Lib.hid (Nat.ne_of_lt (Array.getElem?_eq_some_iff.1 (HX11_5.out W8 HB5_8.out)).1)
            have NE_9_15_13 : Hid (W6.heap.size ≠ W8.heap.size) := Lib.hid (Nat.ne_of_lt (Array.getElem?_eq_some_iff.1 (HX13_7.out W8 HB7_8.out)).1)
            have LE_9 : Hid (w.heap.size ≤ W8.heap.size) := Lib.hid HBw8.out.size
            have HBw9 : Hid (Below w.heap.size w W9) := Lib.hid (HBw8.out.trans ((by rw [← HW9.out]; exact (Below.refl _ _).alloc (Nat.le_refl _) _ : Below W8.heap.size W8 W9).mono HBw8.out.size))
            have HB0_9 : Hid (Below W0.heap.size W0 W9) := Lib.hid (HB0_8.out.trans ((by rw [← HW9.out]; exact (Below.refl _ _).alloc (Nat.le_refl _) _ : Below W8.heap.size W8 W9).mono HB0_8.out.size))
            have HB1_9 : Hid (Below W1.heap.size W1 W9) := Lib.hid (HB1_8.out.trans ((by rw [← HW9.out]; exact (Below.refl _ _).alloc (Nat.le_refl _) _ : Below W8.heap.size W8 W9).mono HB1_8.out.size))
            have HB2_9 : Hid (Below W2.heap.size W2 W9) := Lib.hid (HB2_8.out.trans ((by rw [← HW9.out]; exact (Below.refl _ _).alloc (Nat.le_refl _) _ : Below W8.heap.size W8 W9).mono HB2_8.out.size))
            have HB3_9 : Hid (Below W3.heap.size W3 W9) := Lib.hid (HB3_8.out.trans ((by rw [← HW9.out]; exact (Below.refl _ _).alloc (Nat.le_refl _) _ : Below W8.heap.size W8 W9).mono HB3_8.out.size))
            have HB4_9 : Hid (Below W4.heap.size W4 W9) := Lib.hid (HB4_8.out.trans ((by rw [← HW9.out]; exact (Below.refl _ _).alloc (Nat.le_refl _) _ : Below W8.heap.size W8 W9).mono HB4_8.out.size))
            have HB5_9 : Hid (Below W5.heap.size W5 W9) := Lib.hid (HB5_8.out.trans ((by rw [← HW9.out]; exact (Below.refl _ _).alloc (Nat.le_refl _) _ : Below W8.heap.size W8 W9).mono HB5_8.out.size))
            have HB6_9 : Hid (Below W6.heap.size W6 W9) := Lib.hid (HB6_8.out.trans ((by rw [← HW9.out]; exact (Below.refl _ _).alloc (Nat.le_refl _) _ : Below W8.heap.size W8 W9).mono HB6_8.out.size))
            have HB7_9 : Hid (Below W7.heap.size W7 W9) := Lib.hid (HB7_8.out.trans ((by rw [← HW9.out]; exact (Below.refl _ _).alloc (Nat.le_refl _) _ : Below W8.heap.size W8 W9).mono HB7_8.out.size))
            have HB8_9 : Hid (Below W8.heap.size W8 W9) := Lib.hid (by rw [← HW9.out]; exact (Below.refl _ _).alloc (Nat.le_refl _) _)
            have HX15_9 : Hid (∀ W, Below W9.heap.size W9 W → W.heap[W8.heap.size]? = some (.cells #[.int .i64 (dp1 + db1), .int .i64 (ds1 - dp1), .int .i64 dn1] 27 (0, 0))) := Lib.hid (fun W hb => (hb.block _ (by rw [← HW9.out]; simp)).trans (by rw [← HW9.out]; exact heap_alloc_new _ _))
            rw [HW9.out]
            have heq6 : ∀ W, (Op.equalIn 10000 23 (.agg #[.int .i64 cp, .int .i64 cb, .int .i64 cs, .int .i64 cn]) (.agg #[.int .i64 cp, .int .i64 cb, .int .i64 cs, .int .i64 cn])).run Try.prog W = .ok true W := fun W => eq4_of rfl rfl HF.out HF.out (decide_eq_true rfl) W
            obtain ⟨⟨bp, bb, bs, bn⟩, ⟨zp, zb, zs, zn⟩, ⟨xl, xs, xn⟩, j1, j2, j3, j4, j5, j6⟩ := done_ok HF.out HD1.out rfl HT.out
            have HJ1 := Lib.hid j1
            have HJ2 := Lib.hid j2
            have HJ3 := Lib.hid j3
            have HJ4 := Lib.hid j4
            have HFZ := Lib.hid j6
            have HFB := Lib.hid (come_fine HF.out j1)
            simp only at j5
            clear j1 j2 j3 j4 j6
            obtain ⟨k13_0, k13_1, k13_2, k13_3⟩ := cells4 (HX13_7.out W9 HB7_9.out)
            obtain ⟨k4_0, k4_1, k4_2, k4_3⟩ := cells4 (HX0_0.out W9 HB0_9.out)
            obtain ⟨k11_0, k11_1, k11_2, k11_3, k11_4, k11_5, k11_6, k11_7, k11_8, k11_9, k11_10, k11_11⟩ := order.cells12 (HX11_5.out W9 HB5_9.out)
            go_wp2_with fail
            refine Calls.mono (come_is cp cb cs cn iP aP yP dP qP pP fP phP mP rP vP gP HF.out HFQ.out HJ1.out _) ?_
            rintro e10 W10 ⟨rfl, hb⟩
            have HBw10 : Hid (Below w.heap.size w W10) := Lib.hid (HBw9.out.trans ((hb : Below W9.heap.size W9 W10).mono HBw9.out.size))
            have HB0_10 : Hid (Below W0.heap.size W0 W10) := Lib.hid (HB0_9.out.trans ((hb : Below W9.heap.size W9 W10).mono HB0_9.out.size))
            have HB1_10 : Hid (Below W1.heap.size W1 W10) := Lib.hid (HB1_9.out.trans ((hb : Below W9.heap.size W9 W10).mono HB1_9.out.size))
            have HB2_10 : Hid (Below W2.heap.size W2 W10) := Lib.hid (HB2_9.out.trans ((hb : Below W9.heap.size W9 W10).mono HB2_9.out.size))
            have HB3_10 : Hid (Below W3.heap.size W3 W10) := Lib.hid (HB3_9.out.trans ((hb : Below W9.heap.size W9 W10).mono HB3_9.out.size))
            have HB4_10 : Hid (Below W4.heap.size W4 W10) := Lib.hid (HB4_9.out.trans ((hb : Below W9.heap.size W9 W10).mono HB4_9.out.size))
            have HB5_10 : Hid (Below W5.heap.size W5 W10) := Lib.hid (HB5_9.out.trans ((hb : Below W9.heap.size W9 W10).mono HB5_9.out.size))
            have HB6_10 : Hid (Below W6.heap.size W6 W10) := Lib.hid (HB6_9.out.trans ((hb : Below W9.heap.size W9 W10).mono HB6_9.out.size))
            have HB7_10 : Hid (Below W7.heap.size W7 W10) := Lib.hid (HB7_9.out.trans ((hb : Below W9.heap.size W9 W10).mono HB7_9.out.size))
            have HB8_10 : Hid (Below W8.heap.size W8 W10) := Lib.hid (HB8_9.out.trans ((hb : Below W9.heap.size W9 W10).mono HB8_9.out.size))
            have HB9_10 : Hid (Below W9.heap.size W9 W10) := Lib.hid (hb)
            clear hb
            clear k13_0 k13_1 k13_2 k13_3 k4_0 k4_1 k4_2 k4_3 k11_0 k11_1 k11_2 k11_3 k11_4 k11_5 k11_6 k11_7 k11_8 k11_9 k11_10 k11_11
            go_upto_region 14 with fail
            obtain ⟨W11, HW11⟩ : ∃ W, Hid ((W10.alloc (.cells #[.int .i64 bp, .int .i64 bb, .int .i64 bs, .int .i64 bn] 23)) = W) := ⟨_, Lib.hid rfl⟩
            have NE_11_17_4 : Hid (w.heap.size ≠ W10.heap.size) := Lib.hid (Nat.ne_of_lt (Array.getElem?_eq_some_iff.1 (HX0_0.out W10 HB0_10.out)).1)
            have NE_11_17_5 : Hid (w.heap.size + 1 ≠ W10.heap.size) := Lib.hid (Nat.ne_of_lt (Array.getElem?_eq_some_iff.1 (HX1_0.out W10 HB0_10.out)).1)
            have NE_11_17_9 : Hid (W2.heap.size ≠ W10.heap.size) := Lib.hid (Nat.ne_of_lt (Array.getElem?_eq_some_iff.1 (HX9_3.out W10 HB3_10.out)).1)
            have NE_11_17_11 : Hid (W4.heap.size ≠ W10.heap.size) := Lib.hid (Nat.ne_of_lt (Array.getElem?_eq_some_iff.1 (HX11_5.out W10 HB5_10.out)).1)
            have NE_11_17_13 : Hid (W6.heap.size ≠ W10.heap.size) := Lib.hid (Nat.ne_of_lt (Array.getElem?_eq_some_iff.1 (HX13_7.out W10 HB7_10.out)).1)
            have NE_11_17_15 : Hid (W8.heap.size ≠ W10.heap.size) := Lib.hid (Nat.ne_of_lt (Array.getElem?_eq_some_iff.1 (HX15_9.out W10 HB9_10.out)).1)
            have LE_11 : Hid (w.heap.size ≤ W10.heap.size) := Lib.hid HBw10.out.size
            have HBw11 : Hid (Below w.heap.size w W11) := Lib.hid (HBw10.out.trans ((by rw [← HW11.out]; exact (Below.refl _ _).alloc (Nat.le_refl _) _ : Below W10.heap.size W10 W11).mono HBw10.out.size))
            have HB0_11 : Hid (Below W0.heap.size W0 W11) := Lib.hid (HB0_10.out.trans ((by rw [← HW11.out]; exact (Below.refl _ _).alloc (Nat.le_refl _) _ : Below W10.heap.size W10 W11).mono HB0_10.out.size))
            have HB1_11 : Hid (Below W1.heap.size W1 W11) := Lib.hid (HB1_10.out.trans ((by rw [← HW11.out]; exact (Below.refl _ _).alloc (Nat.le_refl _) _ : Below W10.heap.size W10 W11).mono HB1_10.out.size))
            have HB2_11 : Hid (Below W2.heap.size W2 W11) := Lib.hid (HB2_10.out.trans ((by rw [← HW11.out]; exact (Below.refl _ _).alloc (Nat.le_refl _) _ : Below W10.heap.size W10 W11).mono HB2_10.out.size))
            have HB3_11 : Hid (Below W3.heap.size W3 W11) := Lib.hid (HB3_10.out.trans ((by rw [← HW11.out]; exact (Below.refl _ _).alloc (Nat.le_refl _) _ : Below W10.heap.size W10 W11).mono HB3_10.out.size))
            have HB4_11 : Hid (Below W4.heap.size W4 W11) := Lib.hid (HB4_10.out.trans ((by rw [← HW11.out]; exact (Below.refl _ _).alloc (Nat.le_refl _) _ : Below W10.heap.size W10 W11).mono HB4_10.out.size))
            have HB5_11 : Hid (Below W5.heap.size W5 W11) := Lib.hid (HB5_10.out.trans ((by rw [← HW11.out]; exact (Below.refl _ _).alloc (Nat.le_refl _) _ : Below W10.heap.size W10 W11).mono HB5_10.out.size))
            have HB6_11 : Hid (Below W6.heap.size W6 W11) := Lib.hid (HB6_10.out.trans ((by rw [← HW11.out]; exact (Below.refl _ _).alloc (Nat.le_refl _) _ : Below W10.heap.size W10 W11).mono HB6_10.out.size))
            have HB7_11 : Hid (Below W7.heap.size W7 W11) := Lib.hid (HB7_10.out.trans ((by rw [← HW11.out]; exact (Below.refl _ _).alloc (Nat.le_refl _) _ : Below W10.heap.size W10 W11).mono HB7_10.out.size))
            have HB8_11 : Hid (Below W8.heap.size W8 W11) := Lib.hid (HB8_10.out.trans ((by rw [← HW11.out]; exact (Below.refl _ _).alloc (Nat.le_refl _) _ : Below W10.heap.size W10 W11).mono HB8_10.out.size))
            have HB9_11 : Hid (Below W9.heap.size W9 W11) := Lib.hid (HB9_10.out.trans ((by rw [← HW11.out]; exact (Below.refl _ _).alloc (Nat.le_refl _) _ : Below W10.heap.size W10 W11).mono HB9_10.out.size))
            have HB10_11 : Hid (Below W10.heap.size W10 W11) := Lib.hid (by rw [← HW11.out]; exact (Below.refl _ _).alloc (Nat.le_refl _) _)
            have HX17_11 : Hid (∀ W, Below W11.heap.size W11 W → W.heap[W10.heap.size]? = some (.cells #[.int .i64 bp, .int .i64 bb, .int .i64 bs, .int .i64 bn] 23 (0, 0))) := Lib.hid (fun W hb => (hb.block _ (by rw [← HW11.out]; simp)).trans (by rw [← HW11.out]; exact heap_alloc_new _ _))
            rw [HW11.out]
            obtain ⟨k17_0, k17_1, k17_2, k17_3⟩ := cells4 (HX17_11.out W11 (Below.refl _ _))
            obtain ⟨k5_0, k5_1, k5_2, k5_3, k5_4, k5_5, k5_6, k5_7, k5_8, k5_9, k5_10, k5_11⟩ := order.cells12 (HX1_0.out W11 HB0_11.out)
            go_wp2_with fail
            refine Calls.mono (did_is bp bb bs bn d a2 HFB.out HFO.out.2.2.2.1 HQ.out HJ2.out _) ?_
            rintro e12 W12 ⟨rfl, hb⟩
            have HBw12 : Hid (Below w.heap.size w W12) := Lib.hid (HBw11.out.trans ((hb : Below W11.heap.size W11 W12).mono HBw11.out.size))
            have HB0_12 : Hid (Below W0.heap.size W0 W12) := Lib.hid (HB0_11.out.trans ((hb : Below W11.heap.size W11 W12).mono HB0_11.out.size))
            have HB1_12 : Hid (Below W1.heap.size W1 W12) := Lib.hid (HB1_11.out.trans ((hb : Below W11.heap.size W11 W12).mono HB1_11.out.size))
            have HB2_12 : Hid (Below W2.heap.size W2 W12) := Lib.hid (HB2_11.out.trans ((hb : Below W11.heap.size W11 W12).mono HB2_11.out.size))
            have HB3_12 : Hid (Below W3.heap.size W3 W12) := Lib.hid (HB3_11.out.trans ((hb : Below W11.heap.size W11 W12).mono HB3_11.out.size))
            have HB4_12 : Hid (Below W4.heap.size W4 W12) := Lib.hid (HB4_11.out.trans ((hb : Below W11.heap.size W11 W12).mono HB4_11.out.size))
            have HB5_12 : Hid (Below W5.heap.size W5 W12) := Lib.hid (HB5_11.out.trans ((hb : Below W11.heap.size W11 W12).mono HB5_11.out.size))
            have HB6_12 : Hid (Below W6.heap.size W6 W12) := Lib.hid (HB6_11.out.trans ((hb : Below W11.heap.size W11 W12).mono HB6_11.out.size))
            have HB7_12 : Hid (Below W7.heap.size W7 W12) := Lib.hid (HB7_11.out.trans ((hb : Below W11.heap.size W11 W12).mono HB7_11.out.size))
            have HB8_12 : Hid (Below W8.heap.size W8 W12) := Lib.hid (HB8_11.out.trans ((hb : Below W11.heap.size W11 W12).mono HB8_11.out.size))
            have HB9_12 : Hid (Below W9.heap.size W9 W12) := Lib.hid (HB9_11.out.trans ((hb : Below W11.heap.size W11 W12).mono HB9_11.out.size))
            have HB10_12 : Hid (Below W10.heap.size W10 W12) := Lib.hid (HB10_11.out.trans ((hb : Below W11.heap.size W11 W12).mono HB10_11.out.size))
            have HB11_12 : Hid (Below W11.heap.size W11 W12) := Lib.hid (hb)
            clear hb
            clear k17_0 k17_1 k17_2 k17_3 k5_0 k5_1 k5_2 k5_3 k5_4 k5_5 k5_6 k5_7 k5_8 k5_9 k5_10 k5_11
            go_upto_region 15 with fail
            obtain ⟨W13, HW13⟩ : ∃ W, Hid ((W12.alloc (.cells #[.int .i64 zp, .int .i64 zb, .int .i64 zs, .int .i64 zn] 23)) = W) := ⟨_, Lib.hid rfl⟩
            have NE_13_19_4 : Hid (w.heap.size ≠ W12.heap.size) := Lib.hid (Nat.ne_of_lt (Array.getElem?_eq_some_iff.1 (HX0_0.out W12 HB0_12.out)).1)
            have NE_13_19_5 : Hid (w.heap.size + 1 ≠ W12.heap.size) := Lib.hid (Nat.ne_of_lt (Array.getElem?_eq_some_iff.1 (HX1_0.out W12 HB0_12.out)).1)
            have NE_13_19_9 : Hid (W2.heap.size ≠ W12.heap.size) := Lib.hid (Nat.ne_of_lt (Array.getElem?_eq_some_iff.1 (HX9_3.out W12 HB3_12.out)).1)
            have NE_13_19_11 : Hid (W4.heap.size ≠ W12.heap.size) := Lib.hid (Nat.ne_of_lt (Array.getElem?_eq_some_iff.1 (HX11_5.out W12 HB5_12.out)).1)
            have NE_13_19_13 : Hid (W6.heap.size ≠ W12.heap.size) := Lib.hid (Nat.ne_of_lt (Array.getElem?_eq_some_iff.1 (HX13_7.out W12 HB7_12.out)).1)
            have NE_13_19_15 : Hid (W8.heap.size ≠ W12.heap.size) := Lib.hid (Nat.ne_of_lt (Array.getElem?_eq_some_iff.1 (HX15_9.out W12 HB9_12.out)).1)
            have NE_13_19_17 : Hid (W10.heap.size ≠ W12.heap.size) := Lib.hid (Nat.ne_of_lt (Array.getElem?_eq_some_iff.1 (HX17_11.out W12 HB11_12.out)).1)
            have LE_13 : Hid (w.heap.size ≤ W12.heap.size) := Lib.hid HBw12.out.size
            have HBw13 : Hid (Below w.heap.size w W13) := Lib.hid (HBw12.out.trans ((by rw [← HW13.out]; exact (Below.refl _ _).alloc (Nat.le_refl _) _ : Below W12.heap.size W12 W13).mono HBw12.out.size))
            have HB0_13 : Hid (Below W0.heap.size W0 W13) := Lib.hid (HB0_12.out.trans ((by rw [← HW13.out]; exact (Below.refl _ _).alloc (Nat.le_refl _) _ : Below W12.heap.size W12 W13).mono HB0_12.out.size))
            have HB1_13 : Hid (Below W1.heap.size W1 W13) := Lib.hid (HB1_12.out.trans ((by rw [← HW13.out]; exact (Below.refl _ _).alloc (Nat.le_refl _) _ : Below W12.heap.size W12 W13).mono HB1_12.out.size))
            have HB2_13 : Hid (Below W2.heap.size W2 W13) := Lib.hid (HB2_12.out.trans ((by rw [← HW13.out]; exact (Below.refl _ _).alloc (Nat.le_refl _) _ : Below W12.heap.size W12 W13).mono HB2_12.out.size))
            have HB3_13 : Hid (Below W3.heap.size W3 W13) := Lib.hid (HB3_12.out.trans ((by rw [← HW13.out]; exact (Below.refl _ _).alloc (Nat.le_refl _) _ : Below W12.heap.size W12 W13).mono HB3_12.out.size))
            have HB4_13 : Hid (Below W4.heap.size W4 W13) := Lib.hid (HB4_12.out.trans ((by rw [← HW13.out]; exact (Below.refl _ _).alloc (Nat.le_refl _) _ : Below W12.heap.size W12 W13).mono HB4_12.out.size))
            have HB5_13 : Hid (Below W5.heap.size W5 W13) := Lib.hid (HB5_12.out.trans ((by rw [← HW13.out]; exact (Below.refl _ _).alloc (Nat.le_refl _) _ : Below W12.heap.size W12 W13).mono HB5_12.out.size))
            have HB6_13 : Hid (Below W6.heap.size W6 W13) := Lib.hid (HB6_12.out.trans ((by rw [← HW13.out]; exact (Below.refl _ _).alloc (Nat.le_refl _) _ : Below W12.heap.size W12 W13).mono HB6_12.out.size))
            have HB7_13 : Hid (Below W7.heap.size W7 W13) := Lib.hid (HB7_12.out.trans ((by rw [← HW13.out]; exact (Below.refl _ _).alloc (Nat.le_refl _) _ : Below W12.heap.size W12 W13).mono HB7_12.out.size))
            have HB8_13 : Hid (Below W8.heap.size W8 W13) := Lib.hid (HB8_12.out.trans ((by rw [← HW13.out]; exact (Below.refl _ _).alloc (Nat.le_refl _) _ : Below W12.heap.size W12 W13).mono HB8_12.out.size))
            have HB9_13 : Hid (Below W9.heap.size W9 W13) := Lib.hid (HB9_12.out.trans ((by rw [← HW13.out]; exact (Below.refl _ _).alloc (Nat.le_refl _) _ : Below W12.heap.size W12 W13).mono HB9_12.out.size))
            have HB10_13 : Hid (Below W10.heap.size W10 W13) := Lib.hid (HB10_12.out.trans ((by rw [← HW13.out]; exact (Below.refl _ _).alloc (Nat.le_refl _) _ : Below W12.heap.size W12 W13).mono HB10_12.out.size))
            have HB11_13 : Hid (Below W11.heap.size W11 W13) := Lib.hid (HB11_12.out.trans ((by rw [← HW13.out]; exact (Below.refl _ _).alloc (Nat.le_refl _) _ : Below W12.heap.size W12 W13).mono HB11_12.out.size))
            have HB12_13 : Hid (Below W12.heap.size W12 W13) := Lib.hid (by rw [← HW13.out]; exact (Below.refl _ _).alloc (Nat.le_refl _) _)
            have HX19_13 : Hid (∀ W, Below W13.heap.size W13 W → W.heap[W12.heap.size]? = some (.cells #[.int .i64 zp, .int .i64 zb, .int .i64 zs, .int .i64 zn] 23 (0, 0))) := Lib.hid (fun W hb => (hb.block _ (by rw [← HW13.out]; simp)).trans (by rw [← HW13.out]; exact heap_alloc_new _ _))
            rw [HW13.out]
            obtain ⟨k19_0, k19_1, k19_2, k19_3⟩ := cells4 (HX19_13.out W13 (Below.refl _ _))
            go_wp2_with fail
            refine Calls.mono (of_is zp zb zs zn HFZ.out HJ3.out _) ?_
            rintro e14 W14 ⟨rfl, hb⟩
            have HBw14 : Hid (Below w.heap.size w W14) := Lib.hid (HBw13.out.trans ((hb : Below W13.heap.size W13 W14).mono HBw13.out.size))
            have HB0_14 : Hid (Below W0.heap.size W0 W14) := Lib.hid (HB0_13.out.trans ((hb : Below W13.heap.size W13 W14).mono HB0_13.out.size))
            have HB1_14 : Hid (Below W1.heap.size W1 W14) := Lib.hid (HB1_13.out.trans ((hb : Below W13.heap.size W13 W14).mono HB1_13.out.size))
            have HB2_14 : Hid (Below W2.heap.size W2 W14) := Lib.hid (HB2_13.out.trans ((hb : Below W13.heap.size W13 W14).mono HB2_13.out.size))
            have HB3_14 : Hid (Below W3.heap.size W3 W14) := Lib.hid (HB3_13.out.trans ((hb : Below W13.heap.size W13 W14).mono HB3_13.out.size))
            have HB4_14 : Hid (Below W4.heap.size W4 W14) := Lib.hid (HB4_13.out.trans ((hb : Below W13.heap.size W13 W14).mono HB4_13.out.size))
            have HB5_14 : Hid (Below W5.heap.size W5 W14) := Lib.hid (HB5_13.out.trans ((hb : Below W13.heap.size W13 W14).mono HB5_13.out.size))
            have HB6_14 : Hid (Below W6.heap.size W6 W14) := Lib.hid (HB6_13.out.trans ((hb : Below W13.heap.size W13 W14).mono HB6_13.out.size))
            have HB7_14 : Hid (Below W7.heap.size W7 W14) := Lib.hid (HB7_13.out.trans ((hb : Below W13.heap.size W13 W14).mono HB7_13.out.size))
            have HB8_14 : Hid (Below W8.heap.size W8 W14) := Lib.hid (HB8_13.out.trans ((hb : Below W13.heap.size W13 W14).mono HB8_13.out.size))
            have HB9_14 : Hid (Below W9.heap.size W9 W14) := Lib.hid (HB9_13.out.trans ((hb : Below W13.heap.size W13 W14).mono HB9_13.out.size))
            have HB10_14 : Hid (Below W10.heap.size W10 W14) := Lib.hid (HB10_13.out.trans ((hb : Below W13.heap.size W13 W14).mono HB10_13.out.size))
            have HB11_14 : Hid (Below W11.heap.size W11 W14) := Lib.hid (HB11_13.out.trans ((hb : Below W13.heap.size W13 W14).mono HB11_13.out.size))
            have HB12_14 : Hid (Below W12.heap.size W12 W14) := Lib.hid (HB12_13.out.trans ((hb : Below W13.heap.size W13 W14).mono HB12_13.out.size))
            have HB13_14 : Hid (Below W13.heap.size W13 W14) := Lib.hid (hb)
            clear hb
            clear k19_0 k19_1 k19_2 k19_3
            go_upto_region 19 with fail
            obtain ⟨W15, HW15⟩ : ∃ W, Hid ((W14.alloc (.cells #[.int .i64 xl, .int .i64 xs, .int .i64 xn] 27)) = W) := ⟨_, Lib.hid rfl⟩
            have NE_15_21_4 : Hid (w.heap.size ≠ W14.heap.size) := Lib.hid (Nat.ne_of_lt (Array.getElem?_eq_some_iff.1 (HX0_0.out W14 HB0_14.out)).1)
            have NE_15_21_5 : Hid (w.heap.size + 1 ≠ W14.heap.size) := Lib.hid (Nat.ne_of_lt (Array.getElem?_eq_some_iff.1 (HX1_0.out W14 HB0_14.out)).1)
            have NE_15_21_9 : Hid (W2.heap.size ≠ W14.heap.size) := Lib.hid (Nat.ne_of_lt (Array.getElem?_eq_some_iff.1 (HX9_3.out W14 HB3_14.out)).1)
            have NE_15_21_11 : Hid (W4.heap.size ≠ W14.heap.size) := Lib.hid (Nat.ne_of_lt (Array.getElem?_eq_some_iff.1 (HX11_5.out W14 HB5_14.out)).1)
            have NE_15_21_13 : Hid (W6.heap.size ≠ W14.heap.size) := Lib.hid (Nat.ne_of_lt (Array.getElem?_eq_some_iff.1 (HX13_7.out W14 HB7_14.out)).1)
            have NE_15_21_15 : Hid (W8.heap.size ≠ W14.heap.size) := Lib.hid (Nat.ne_of_lt (Array.getElem?_eq_some_iff.1 (HX15_9.out W14 HB9_14.out)).1)
            have NE_15_21_17 : Hid (W10.heap.size ≠ W14.heap.size) := Lib.hid (Nat.ne_of_lt (Array.getElem?_eq_some_iff.1 (HX17_11.out W14 HB11_14.out)).1)
            have NE_15_21_19 : Hid (W12.heap.size ≠ W14.heap.size) := Lib.hid (Nat.ne_of_lt (Array.getElem?_eq_some_iff.1 (HX19_13.out W14 HB13_14.out)).1)
            have LE_15 : Hid (w.heap.size ≤ W14.heap.size) := Lib.hid HBw14.out.size
            have HBw15 : Hid (Below w.heap.size w W15) := Lib.hid (HBw14.out.trans ((by rw [← HW15.out]; exact (Below.refl _ _).alloc (Nat.le_refl _) _ : Below W14.heap.size W14 W15).mono HBw14.out.size))
            have HB0_15 : Hid (Below W0.heap.size W0 W15) := Lib.hid (HB0_14.out.trans ((by rw [← HW15.out]; exact (Below.refl _ _).alloc (Nat.le_refl _) _ : Below W14.heap.size W14 W15).mono HB0_14.out.size))
            have HB1_15 : Hid (Below W1.heap.size W1 W15) := Lib.hid (HB1_14.out.trans ((by rw [← HW15.out]; exact (Below.refl _ _).alloc (Nat.le_refl _) _ : Below W14.heap.size W14 W15).mono HB1_14.out.size))
            have HB2_15 : Hid (Below W2.heap.size W2 W15) := Lib.hid (HB2_14.out.trans ((by rw [← HW15.out]; exact (Below.refl _ _).alloc (Nat.le_refl _) _ : Below W14.heap.size W14 W15).mono HB2_14.out.size))
            have HB3_15 : Hid (Below W3.heap.size W3 W15) := Lib.hid (HB3_14.out.trans ((by rw [← HW15.out]; exact (Below.refl _ _).alloc (Nat.le_refl _) _ : Below W14.heap.size W14 W15).mono HB3_14.out.size))
            have HB4_15 : Hid (Below W4.heap.size W4 W15) := Lib.hid (HB4_14.out.trans ((by rw [← HW15.out]; exact (Below.refl _ _).alloc (Nat.le_refl _) _ : Below W14.heap.size W14 W15).mono HB4_14.out.size))
            have HB5_15 : Hid (Below W5.heap.size W5 W15) := Lib.hid (HB5_14.out.trans ((by rw [← HW15.out]; exact (Below.refl _ _).alloc (Nat.le_refl _) _ : Below W14.heap.size W14 W15).mono HB5_14.out.size))
            have HB6_15 : Hid (Below W6.heap.size W6 W15) := Lib.hid (HB6_14.out.trans ((by rw [← HW15.out]; exact (Below.refl _ _).alloc (Nat.le_refl _) _ : Below W14.heap.size W14 W15).mono HB6_14.out.size))
            have HB7_15 : Hid (Below W7.heap.size W7 W15) := Lib.hid (HB7_14.out.trans ((by rw [← HW15.out]; exact (Below.refl _ _).alloc (Nat.le_refl _) _ : Below W14.heap.size W14 W15).mono HB7_14.out.size))
            have HB8_15 : Hid (Below W8.heap.size W8 W15) := Lib.hid (HB8_14.out.trans ((by rw [← HW15.out]; exact (Below.refl _ _).alloc (Nat.le_refl _) _ : Below W14.heap.size W14 W15).mono HB8_14.out.size))
            have HB9_15 : Hid (Below W9.heap.size W9 W15) := Lib.hid (HB9_14.out.trans ((by rw [← HW15.out]; exact (Below.refl _ _).alloc (Nat.le_refl _) _ : Below W14.heap.size W14 W15).mono HB9_14.out.size))
            have HB10_15 : Hid (Below W10.heap.size W10 W15) := Lib.hid (HB10_14.out.trans ((by rw [← HW15.out]; exact (Below.refl _ _).alloc (Nat.le_refl _) _ : Below W14.heap.size W14 W15).mono HB10_14.out.size))
            have HB11_15 : Hid (Below W11.heap.size W11 W15) := Lib.hid (HB11_14.out.trans ((by rw [← HW15.out]; exact (Below.refl _ _).alloc (Nat.le_refl _) _ : Below W14.heap.size W14 W15).mono HB11_14.out.size))
            have HB12_15 : Hid (Below W12.heap.size W12 W15) := Lib.hid (HB12_14.out.trans ((by rw [← HW15.out]; exact (Below.refl _ _).alloc (Nat.le_refl _) _ : Below W14.heap.size W14 W15).mono HB12_14.out.size))
            have HB13_15 : Hid (Below W13.heap.size W13 W15) := Lib.hid (HB13_14.out.trans ((by rw [← HW15.out]; exact (Below.refl _ _).alloc (Nat.le_refl _) _ : Below W14.heap.size W14 W15).mono HB13_14.out.size))
            have HB14_15 : Hid (Below W14.heap.size W14 W15) := Lib.hid (by rw [← HW15.out]; exact (Below.refl _ _).alloc (Nat.le_refl _) _)
            have HX21_15 : Hid (∀ W, Below W15.heap.size W15 W → W.heap[W14.heap.size]? = some (.cells #[.int .i64 xl, .int .i64 xs, .int .i64 xn] 27 (0, 0))) := Lib.hid (fun W hb => (hb.block _ (by rw [← HW15.out]; simp)).trans (by rw [← HW15.out]; exact heap_alloc_new _ _))
            rw [HW15.out]
            obtain ⟨k15_0, k15_1, k15_2⟩ := cells3 (HX15_9.out W15 HB9_15.out)
            obtain ⟨k21_0, k21_1, k21_2⟩ := cells3 (HX21_15.out W15 (Below.refl _ _))
            go_wp2_with fail
            refine Calls.mono (covers_is (dp1 + db1) (ds1 - dp1) dn1 xl xs xn HJ4.out _) ?_
            rintro e16 W16 ⟨rfl, hb⟩
            have HBw16 : Hid (Below w.heap.size w W16) := Lib.hid (HBw15.out.trans ((hb : Below W15.heap.size W15 W16).mono HBw15.out.size))
            have HB0_16 : Hid (Below W0.heap.size W0 W16) := Lib.hid (HB0_15.out.trans ((hb : Below W15.heap.size W15 W16).mono HB0_15.out.size))
            have HB1_16 : Hid (Below W1.heap.size W1 W16) := Lib.hid (HB1_15.out.trans ((hb : Below W15.heap.size W15 W16).mono HB1_15.out.size))
            have HB2_16 : Hid (Below W2.heap.size W2 W16) := Lib.hid (HB2_15.out.trans ((hb : Below W15.heap.size W15 W16).mono HB2_15.out.size))
            have HB3_16 : Hid (Below W3.heap.size W3 W16) := Lib.hid (HB3_15.out.trans ((hb : Below W15.heap.size W15 W16).mono HB3_15.out.size))
            have HB4_16 : Hid (Below W4.heap.size W4 W16) := Lib.hid (HB4_15.out.trans ((hb : Below W15.heap.size W15 W16).mono HB4_15.out.size))
            have HB5_16 : Hid (Below W5.heap.size W5 W16) := Lib.hid (HB5_15.out.trans ((hb : Below W15.heap.size W15 W16).mono HB5_15.out.size))
            have HB6_16 : Hid (Below W6.heap.size W6 W16) := Lib.hid (HB6_15.out.trans ((hb : Below W15.heap.size W15 W16).mono HB6_15.out.size))
            have HB7_16 : Hid (Below W7.heap.size W7 W16) := Lib.hid (HB7_15.out.trans ((hb : Below W15.heap.size W15 W16).mono HB7_15.out.size))
            have HB8_16 : Hid (Below W8.heap.size W8 W16) := Lib.hid (HB8_15.out.trans ((hb : Below W15.heap.size W15 W16).mono HB8_15.out.size))
            have HB9_16 : Hid (Below W9.heap.size W9 W16) := Lib.hid (HB9_15.out.trans ((hb : Below W15.heap.size W15 W16).mono HB9_15.out.size))
            have HB10_16 : Hid (Below W10.heap.size W10 W16) := Lib.hid (HB10_15.out.trans ((hb : Below W15.heap.size W15 W16).mono HB10_15.out.size))
            have HB11_16 : Hid (Below W11.heap.size W11 W16) := Lib.hid (HB11_15.out.trans ((hb : Below W15.heap.size W15 W16).mono HB11_15.out.size))
            have HB12_16 : Hid (Below W12.heap.size W12 W16) := Lib.hid (HB12_15.out.trans ((hb : Below W15.heap.size W15 W16).mono HB12_15.out.size))
            have HB13_16 : Hid (Below W13.heap.size W13 W16) := Lib.hid (HB13_15.out.trans ((hb : Below W15.heap.size W15 W16).mono HB13_15.out.size))
            have HB14_16 : Hid (Below W14.heap.size W14 W16) := Lib.hid (HB14_15.out.trans ((hb : Below W15.heap.size W15 W16).mono HB14_15.out.size))
            have HB15_16 : Hid (Below W15.heap.size W15 W16) := Lib.hid (hb)
            clear hb
            clear k15_0 k15_1 k15_2 k21_0 k21_1 k21_2
            obtain ⟨k19_0, k19_1, k19_2, k19_3⟩ := cells4 (HX19_13.out W16 HB13_16.out)
            obtain ⟨k9_0, k9_1, k9_2, k9_3⟩ := cells4 (HX9_3.out W16 HB3_16.out)
            go_wp2_with fail
            go_ret
            exact ⟨rec.retB (by first | rfl | (simp; done) | (simp; omega)), HBw16.out⟩
          · go_wp2_with fail
            go_ret
            exact ⟨rec.retB (by first | rfl | (simp; done) | (simp; omega)), HBw5.out⟩
    · obtain ⟨k5_0, k5_1, k5_2, k5_3, k5_4, k5_5, k5_6, k5_7, k5_8, k5_9, k5_10, k5_11⟩ := order.cells12 (HX1_0.out W3 HB0_3.out)
      go_wp2_with fail
      go_ret
      exact ⟨rec.retB (by first | rfl | (simp; done) | (simp; omega)), HBw3.out⟩
  · go_wp2_with fail
    go_ret
    exact ⟨rec.retB (by first | rfl | (simp; done) | (simp; omega)), HBw3.out⟩
  -- WALK ENDS

set_option maxRecDepth 100000 in
theorem lifted (os : Os) (started : os.Started) (H : Type) (enc : TypeId × Value → H) :
    ReturnsInHanded {} Try.checked os 5 .any (Rows.cellDoneSpec.pre6 enc Try.prog Try.f5 Rows.cellDoneRow.domain false) (Rows.cellDoneSpec.post enc Try.prog Try.f5 false true false false) := by
  refine returnsInHanded_of_change (C := Try.checked) own started (by kernel_rfl) Try.func5
    (ChangeSpec.witness6 (enc := enc) (C := Try.checked) false ⟨#[], #[.agg #[.int .i64 0, .int .i64 0, .int .i64 0, .int .i64 0], .agg #[.int .i64 0, .int .i64 0, .int .i64 0, .int .i64 0, .int .i64 0, .int .i64 0, .int .i64 0, .int .i64 0, .int .i64 0, .int .i64 0, .int .i64 0, .bool false], .int .i64 0, .int .i64 0], []⟩ 8 (by kernel_rfl) (by kernel_rfl) (by kernel_rfl) (by kernel_rfl)) ?_
  intro W base args ds gs before hval0 hW hcnd _
  have hval : ∀ (j : Nat) t v, Try.f5.params[j]? = some t → args[j]? = some v → Value.okWide Try.prog W .any base t v := hval0
  have hW' := hW
  obtain ⟨p, q, hA0, hV, rfl, hfz, hnd⟩ := hW
  have hA : DataW.TrodAll enc Try.prog W 0 (fun _ => true) true Try.f5.params.toList args.toList ds p := hA0
  rw [Try.params5] at hA hval
  obtain ⟨v0, vs0, d0, ds0, p0_, q0, hargs, rfl, rfl, h0, r0⟩ := trodAll_cons hA
  obtain ⟨v1, vs1, d1, ds1, p1_, q1, rfl, rfl, rfl, h1, r1⟩ := trodAll_cons r0
  obtain ⟨v2, vs2, d2, ds2, p2_, q2, rfl, rfl, rfl, h2, r2⟩ := trodAll_cons r1
  obtain ⟨v3, vs3, d3, ds3, p3_, q3, rfl, rfl, rfl, h3, r3⟩ := trodAll_cons r2
  obtain ⟨rfl, rfl, rfl⟩ := trodAll_nil r3
  obtain rfl : args = #[v0, v1, v2, v3] := by cases args; simp_all
  obtain ⟨rfl, rfl⟩ := trodVars_none hV
  obtain ⟨cs0, rfl, hsz0⟩ := okWide_struct Try.underlying23 (hval 0 23 v0 rfl rfl)
  have k0 := h0
  have lt0 : ∀ x ∈ p0_, x.block < W.heap.size := by obtain ⟨m, hm⟩ := k0; exact DataW.trod_lt m _ _ _ hm
  obtain ⟨x0, w0⟩ := of_arg of_cell k0
  obtain ⟨cs1, rfl, hsz1⟩ := okWide_struct Try.underlying25 (hval 1 25 v1 rfl rfl)
  have k1 := h1
  have lt1 : ∀ x ∈ p1_, x.block < W.heap.size := by obtain ⟨m, hm⟩ := k1; exact DataW.trod_lt m _ _ _ hm
  obtain ⟨x1, w1⟩ := of_arg of_order k1
  obtain ⟨a2, rfl, rfl, rfl, w2⟩ := open_int Try.underlying2 (hval 2 2 v2 rfl rfl) h2
  obtain ⟨a3, rfl, rfl, rfl, w3⟩ := open_int Try.underlying2 (hval 3 2 v3 rfl rfl) h3
  clear hA0 hval0
  refine (walk cs0 x0 cs1 x1 a2 a3 W w0 w1 w2 w3).mono fun e W' ⟨he, bel⟩ => ?_
  subst he
  exact ⟨_, rfl, _, _, _, [], _, [], hW', trodAll_mk1 (shut_bool Try.underlying4 _), (trodAll_cons_mk (Below.trod laidOut (by kernel_rfl) (of_decide_eq_true (by kernel_rfl)) k0 bel lt0) (trodAll_cons_mk (Below.trod laidOut (by kernel_rfl) (of_decide_eq_true (by kernel_rfl)) k1 bel lt1) (trodAll_cons_mk (shut_int Try.underlying2 w2) (trodAll_cons_mk (shut_int Try.underlying2 w3) trodAll_mk0)))), rfl, bel.frame _, fun h => by cases h⟩

theorem over : Rows.cellDoneRow.holds Try.pinned (OpenSpec.ofChange Rows.cellDoneSpec) :=
  OpenClaim.holds_of_wide 5 Try.f5 rfl rfl rfl rfl rfl rfl rfl ⟨rfl, rfl, rfl, rfl, rfl⟩ rfl rfl rfl rfl rfl (by kernel_rfl) Try.func5 (by kernel_rfl)
    (of_decide_eq_true (by kernel_rfl)) (by unfold Func.isWrapper; first | (rw [if_pos (by decide +kernel)]; kernel_rfl) | (rw [if_neg (by decide +kernel)]; exact ⟨rfl, rfl⟩))
    (fun os started H enc _ => lifted os started H enc)

theorem proved : Rows.CellDoneSaid := over
#print axioms proved
end Go.Proofs.Ytkpapjdlpjjmbaa.cellDone
