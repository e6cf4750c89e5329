/-
  PROVED: the law OrderAsks answers true at every input, and leaves what it was given as it was.
  CONDITIONS: none.
-/
import Derived.Test.YtfnapckjccjjjaaRows
import Derived.WalkKit
import Derived.ProofKit
import Derived.OpenShut
import Derived.ShutString
import Derived.ChangeOld
import Derived.Below
import Derived.Deep.RegionHeld
import Derived.Deep.DrawnRows
import Derived.Deep.DeepCutAuto
import Derived.Test.YtfnapckjccjjjaaAwake07
import Derived.Test.YtfnapckjccjjjaaOrdEq
namespace Go.Proofs.Ytfnapckjccjjjaa.orderAsks
open Go.ChangeShapes Go.WideShapes Go.ChangeAt Go.RowKit
open Go.ChangeMaps (open_string shut_string)
open Go.Proofs.Ytfnapckjccjjjaa Go.Proofs.Ytfnapckjccjjjaa.order
attribute [local go_sem] undef
attribute [local go_sem ↓] Go.wp_at_zero Go.wp_at_succ
set_option linter.unusedVariables false

theorem own : ownKnob Try.prog.godebug = none := by kernel_rfl
theorem laidOut : laidOutB Try.prog = true := by kernel_rfl

set_option maxHeartbeats 8000000 in
set_option maxRecDepth 100000 in
theorem walk (cs0 : Array Value) (x0 : OrderD) (a1 : Int) (a2 : Int) (a3 : Int) (w : World) (w0 : rdOrder w (Lt w.heap.size) cs0.toList x0) (w1 : (Lit.int .i64 a1).wf = true) (w2 : (Lit.int .i64 a2).wf = true) (w3 : (Lit.int .i64 a3).wf = true) :
    Calls Try.prog 6 #[.agg cs0, .int .i64 a1, .int .i64 a2, .int .i64 a3] w fun e w' => e = .returned (.bool true) ∧ Below w.heap.size w w' := by
  -- WALK BEGINS
  obtain ⟨hc0, hf0⟩ := w0
  obtain rfl : cs0 = oc x0 := by apply Array.toList_inj.1; exact hc0
  clear hc0
  obtain ⟨i, a, y, d, q, p, f, ph, m, r, v, g⟩ := x0
  show Calls Try.prog 6 #[.agg #[.int .i64 i, .int .i64 a, .int .i64 y, .int .i64 d, .int .i64 q, .int .i64 p, .int .i64 f, .int .i64 ph, .int .i64 m, .int .i64 r, .int .i64 v, .bool g], .int .i64 a1, .int .i64 a2, .int .i64 a3] w _
  obtain ⟨W0, HW0⟩ : ∃ W, Hid ((w.alloc (.cells #[.int .i64 i, .int .i64 a, .int .i64 y, .int .i64 d, .int .i64 q, .int .i64 p, .int .i64 f, .int .i64 ph, .int .i64 m, .int .i64 r, .int .i64 v, .bool g] 23)) = W) := ⟨_, Lib.hid rfl⟩
  have HBW : Hid (Below w.heap.size w W0) := Lib.hid (by rw [← HW0.out]; exact (Below.refl _ _).alloc (by simp) _)
  have HX0 : Hid (∀ W, Below W0.heap.size W0 W → W.heap[w.heap.size]? = some (.cells #[.int .i64 i, .int .i64 a, .int .i64 y, .int .i64 d, .int .i64 q, .int .i64 p, .int .i64 f, .int .i64 ph, .int .i64 m, .int .i64 r, .int .i64 v, .bool g] 23 (0, 0))) := Lib.hid (fun W hb => (hb.block _ (by rw [← HW0.out]; simp; try omega)).trans (by rw [← HW0.out]; have := heap_alloc_new w (.cells #[.int .i64 i, .int .i64 a, .int .i64 y, .int .i64 d, .int .i64 q, .int .i64 p, .int .i64 f, .int .i64 ph, .int .i64 m, .int .i64 r, .int .i64 v, .bool g] 23); exact this))
  have HF := Lib.hid hf0
  have HI : Hid (frame.inR a1 ∧ frame.inR a2 ∧ frame.inR a3) := Lib.hid ⟨inI_of_wf w1, inI_of_wf w2, inI_of_wf w3⟩
  obtain ⟨c, HC⟩ : ∃ x, Hid (right ⟨i, a, y, d, q, p, f, ph, m, r, v, g⟩ = x) := ⟨_, Lib.hid rfl⟩
  obtain ⟨⟨⟨iA, aA, yA, dA, qA, pA, fA, phA, mA, rA, vA, gA⟩, ee⟩, hch⟩ : ∃ x, change ⟨i, a, y, d, q, p, f, ph, m, r, v, g⟩ a1 a2 = x := ⟨_, rfl⟩
  have HCH := Lib.hid hch
  have HFA : Hid ((⟨iA, aA, yA, dA, qA, pA, fA, phA, mA, rA, vA, gA⟩ : Or).fine) := Lib.hid (change_fine hf0 HI.out.1 HI.out.2.1 hch)
  have HE : Hid (ee = 0 ∨ ((⟨iA, aA, yA, dA, qA, pA, fA, phA, mA, rA, vA, gA⟩ : Or) = ⟨i, a, y, d, q, p, f, ph, m, r, v, g⟩ ∧ (ee = 1 ∨ ee = 8))) := Lib.hid (change_err hch)
  clear hf0 hch w1 w2 w3
  go_enter Try.func6, Try.ntmps6
  go_wp2_with fail
  refine Calls.mono (order.awake_any _) ?_
  rintro e1 W1 ⟨rfl, hb⟩
  rw [HW0.out] at hb
  have HB0_1 : Hid (Below W0.heap.size W0 W1) := Lib.hid (hb)
  clear hb
  obtain ⟨k_0, k_1, k_2, k_3, k_4, k_5, k_6, k_7, k_8, k_9, k_10, k_11⟩ := cells12 (HX0.out W1 HB0_1.out)
  go_wp2_with fail
  refine Calls.mono (order.right_is i a y d q p f ph m r v g HF.out HC.out _) ?_
  rintro e2 W2 ⟨rfl, hb⟩
  have HB0_2 : Hid (Below W0.heap.size W0 W2) := Lib.hid (HB0_1.out.trans ((hb : Below W1.heap.size W1 W2).mono HB0_1.out.size))
  have HB1_2 : Hid (Below W1.heap.size W1 W2) := Lib.hid (hb)
  clear hb
  clear k_0 k_1 k_2 k_3 k_4 k_5 k_6 k_7 k_8 k_9 k_10 k_11
  rcases c with _ | _
  · go_wp2_with fail
    go_ret
    exact ⟨rfl, HBW.out.trans (HB0_2.out.mono HBW.out.size)⟩
  · by_cases hs1 : a3 < 1
    · go_wp2_with fail
      go_ret
      exact ⟨rfl, HBW.out.trans (HB0_2.out.mono HBW.out.size)⟩
    · have hs1' : 1 ≤ a3 := by omega
      by_cases hs2 : 1000 < a3
      · go_wp2_with fail
        go_ret
        exact ⟨rfl, HBW.out.trans (HB0_2.out.mono HBW.out.size)⟩
      · have hs2' : a3 ≤ 1000 := by omega
        clear hs1 hs2
        obtain ⟨k_0, k_1, k_2, k_3, k_4, k_5, k_6, k_7, k_8, k_9, k_10, k_11⟩ := cells12 (HX0.out W2 HB0_2.out)
        go_wp2_with fail
        refine Calls.mono (order.change_is i a y d q p f ph m r v g a1 a2 HF.out ⟨HI.out.1, HI.out.2.1⟩ HCH.out _) ?_
        rintro e3 W3 ⟨rfl, hb⟩
        have HB0_3 : Hid (Below W0.heap.size W0 W3) := Lib.hid (HB0_2.out.trans ((hb : Below W2.heap.size W2 W3).mono HB0_2.out.size))
        have HB1_3 : Hid (Below W1.heap.size W1 W3) := Lib.hid (HB1_2.out.trans ((hb : Below W2.heap.size W2 W3).mono HB1_2.out.size))
        have HB2_3 : Hid (Below W2.heap.size W2 W3) := Lib.hid (hb)
        clear hb
        clear k_0 k_1 k_2 k_3 k_4 k_5 k_6 k_7 k_8 k_9 k_10 k_11
        obtain ⟨W4, HW4⟩ : ∃ W, Hid ((W3.alloc (.cells #[.int .i64 iA, .int .i64 aA, .int .i64 yA, .int .i64 dA, .int .i64 qA, .int .i64 pA, .int .i64 fA, .int .i64 phA, .int .i64 mA, .int .i64 rA, .int .i64 vA, .bool gA] 23)) = W) := ⟨_, Lib.hid rfl⟩
        have HB0_4 : Hid (Below W0.heap.size W0 W4) := Lib.hid (HB0_3.out.trans ((by rw [← HW4.out]; exact (Below.refl _ _).alloc (Nat.le_refl _) _ : Below W3.heap.size W3 W4).mono HB0_3.out.size))
        have HB1_4 : Hid (Below W1.heap.size W1 W4) := Lib.hid (HB1_3.out.trans ((by rw [← HW4.out]; exact (Below.refl _ _).alloc (Nat.le_refl _) _ : Below W3.heap.size W3 W4).mono HB1_3.out.size))
        have HB2_4 : Hid (Below W2.heap.size W2 W4) := Lib.hid (HB2_3.out.trans ((by rw [← HW4.out]; exact (Below.refl _ _).alloc (Nat.le_refl _) _ : Below W3.heap.size W3 W4).mono HB2_3.out.size))
        have HB3_4 : Hid (Below W3.heap.size W3 W4) := Lib.hid (by rw [← HW4.out]; exact (Below.refl _ _).alloc (Nat.le_refl _) _)
        have HX_p : Hid (∀ W, Below W4.heap.size W4 W → W.heap[W3.heap.size]? = some (.cells #[.int .i64 iA, .int .i64 aA, .int .i64 yA, .int .i64 dA, .int .i64 qA, .int .i64 pA, .int .i64 fA, .int .i64 phA, .int .i64 mA, .int .i64 rA, .int .i64 vA, .bool gA] 23 (0, 0))) := Lib.hid (fun W hb => (hb.block _ (by rw [← HW4.out]; simp)).trans (by rw [← HW4.out]; exact heap_alloc_new _ _))
        rcases HE.out with he | he
        · subst he
          obtain ⟨hR, hx, hz, hv, rfl, rfl, rfl, rfl, hp⟩ := change_ok HCH.out
          simp only [Or.mk.injEq] at hp
          obtain ⟨u1, u2, u3, u4, u5, u6, u7, rfl, u9, u10, rfl, rfl⟩ := hp
          obtain rfl : i = iA := u1.symm
          obtain rfl : a = aA := u2.symm
          obtain rfl : y = yA := u3.symm
          obtain rfl : d = dA := u4.symm
          obtain rfl : q = qA := u5.symm
          obtain rfl : p = pA := u6.symm
          obtain rfl : f = fA := u7.symm
          obtain rfl : a1 = mA := u9.symm
          obtain rfl : a2 = rA := u10.symm
          have HRP : Hid (right ⟨i, a, y, d, q, p, f, 2, a1, a2, (v + 1), false⟩ = true) := Lib.hid (right_iff.2 (change_right HCH.out))
          obtain ⟨n1, HO1⟩ : ∃ n, Hid (open_ ⟨i, a, y, d, q, p, f, 2, 0, 0, v, false⟩ = n) := ⟨_, Lib.hid rfl⟩
          obtain ⟨n2, HO2⟩ : ∃ n, Hid (open_ ⟨i, a, y, d, q, p, f, 2, a1, a2, (v + 1), false⟩ = n) := ⟨_, Lib.hid rfl⟩
          have ho : n1 ≤ n2 := by rw [← HO1.out, ← HO2.out]; exact change_open HCH.out
          obtain ⟨⟨g1, e1⟩, hw1⟩ : ∃ x, worth ⟨i, a, y, d, q, p, f, 2, 0, 0, v, false⟩ = x := ⟨_, rfl⟩
          obtain ⟨⟨g2, e2⟩, hw2⟩ : ∃ x, worth ⟨i, a, y, d, q, p, f, 2, a1, a2, (v + 1), false⟩ = x := ⟨_, rfl⟩
          have HW1' := Lib.hid hw1
          have HW2' := Lib.hid hw2
          have HWW : Hid (e2 = 0 → e1 = 0 ∧ g1 ≤ g2) := Lib.hid (fun h => by
            subst h
            obtain ⟨x, hx, hle⟩ := change_worth HCH.out hw2
            rw [hw1] at hx
            simp only [Prod.mk.injEq] at hx
            obtain ⟨rfl, rfl⟩ := hx
            exact ⟨rfl, hle⟩)
          obtain ⟨⟨⟨iC, aC, yC, dC, qC, pC, fC, phC, mC, rC, vC, gC⟩, eC⟩, hc2⟩ : ∃ x, change ⟨i, a, y, d, q, p, f, 2, a1, a2, (v + 1), false⟩ a1 a2 = x := ⟨_, rfl⟩
          have HC2 := Lib.hid hc2
          have hcn : (eC == 0) = false := by have := change_twice HCH.out; rw [hc2] at this; simpa using this
          have HSQ : Hid (1 ≤ a3 ∧ a3 ≤ 1000) := Lib.hid ⟨by omega, by omega⟩
          have HT6 : Hid (take ⟨i, a, y, d, q, p, f, 2, a1, a2, (v + 1), false⟩ ⟨a3, 6, i, 0, 0⟩ = (⟨i, a, y, d, q, p, f, 2, 0, 0, (v + 1), false⟩, 0)) := Lib.hid (change_refused HCH.out HSQ.out)
          have HFR : Hid ((⟨i, a, y, d, q, p, f, 2, 0, 0, (v + 1), false⟩ : Or).fine) := Lib.hid (take_fine HFA.out HT6.out)
          clear hR hx hz hv u1 u2 u3 u4 u5 u6 u7 u9 u10 hw1 hw2 hc2 HE
          obtain ⟨k_0, k_1, k_2, k_3, k_4, k_5, k_6, k_7, k_8, k_9, k_10, k_11⟩ := cells12 (HX0.out W4 HB0_4.out)
          rw [← HW4.out] at k_0 k_1 k_2 k_3 k_4 k_5 k_6 k_7 k_8 k_9 k_10 k_11
          go_wp2_with fail
          refine Calls.mono (order.worth_is i a y d q p f 2 0 0 v false HF.out HW1'.out _) ?_
          rintro e5 W5 ⟨rfl, hb⟩
          rw [HW4.out] at hb
          have HB0_5 : Hid (Below W0.heap.size W0 W5) := Lib.hid (HB0_4.out.trans ((hb : Below W4.heap.size W4 W5).mono HB0_4.out.size))
          have HB1_5 : Hid (Below W1.heap.size W1 W5) := Lib.hid (HB1_4.out.trans ((hb : Below W4.heap.size W4 W5).mono HB1_4.out.size))
          have HB2_5 : Hid (Below W2.heap.size W2 W5) := Lib.hid (HB2_4.out.trans ((hb : Below W4.heap.size W4 W5).mono HB2_4.out.size))
          have HB3_5 : Hid (Below W3.heap.size W3 W5) := Lib.hid (HB3_4.out.trans ((hb : Below W4.heap.size W4 W5).mono HB3_4.out.size))
          have HB4_5 : Hid (Below W4.heap.size W4 W5) := Lib.hid (hb)
          clear hb
          clear k_0 k_1 k_2 k_3 k_4 k_5 k_6 k_7 k_8 k_9 k_10 k_11
          obtain ⟨p_0, p_1, p_2, p_3, p_4, p_5, p_6, p_7, p_8, p_9, p_10, p_11⟩ := cells12 (HX_p.out W5 HB4_5.out)
          go_wp2_with fail
          refine Calls.mono (order.worth_is i a y d q p f 2 a1 a2 (v + 1) false HFA.out HW2'.out _) ?_
          rintro e6 W6 ⟨rfl, hb⟩
          have HB0_6 : Hid (Below W0.heap.size W0 W6) := Lib.hid (HB0_5.out.trans ((hb : Below W5.heap.size W5 W6).mono HB0_5.out.size))
          have HB1_6 : Hid (Below W1.heap.size W1 W6) := Lib.hid (HB1_5.out.trans ((hb : Below W5.heap.size W5 W6).mono HB1_5.out.size))
          have HB2_6 : Hid (Below W2.heap.size W2 W6) := Lib.hid (HB2_5.out.trans ((hb : Below W5.heap.size W5 W6).mono HB2_5.out.size))
          have HB3_6 : Hid (Below W3.heap.size W3 W6) := Lib.hid (HB3_5.out.trans ((hb : Below W5.heap.size W5 W6).mono HB3_5.out.size))
          have HB4_6 : Hid (Below W4.heap.size W4 W6) := Lib.hid (HB4_5.out.trans ((hb : Below W5.heap.size W5 W6).mono HB4_5.out.size))
          have HB5_6 : Hid (Below W5.heap.size W5 W6) := Lib.hid (hb)
          clear hb
          clear p_0 p_1 p_2 p_3 p_4 p_5 p_6 p_7 p_8 p_9 p_10 p_11
          obtain ⟨p_0, p_1, p_2, p_3, p_4, p_5, p_6, p_7, p_8, p_9, p_10, p_11⟩ := cells12 (HX_p.out W6 HB4_6.out)
          go_wp2_with fail
          refine Calls.mono (order.change_is i a y d q p f 2 a1 a2 (v + 1) false a1 a2 HFA.out ⟨HI.out.1, HI.out.2.1⟩ HC2.out _) ?_
          rintro e7 W7 ⟨rfl, hb⟩
          have HB0_7 : Hid (Below W0.heap.size W0 W7) := Lib.hid (HB0_6.out.trans ((hb : Below W6.heap.size W6 W7).mono HB0_6.out.size))
          have HB1_7 : Hid (Below W1.heap.size W1 W7) := Lib.hid (HB1_6.out.trans ((hb : Below W6.heap.size W6 W7).mono HB1_6.out.size))
          have HB2_7 : Hid (Below W2.heap.size W2 W7) := Lib.hid (HB2_6.out.trans ((hb : Below W6.heap.size W6 W7).mono HB2_6.out.size))
          have HB3_7 : Hid (Below W3.heap.size W3 W7) := Lib.hid (HB3_6.out.trans ((hb : Below W6.heap.size W6 W7).mono HB3_6.out.size))
          have HB4_7 : Hid (Below W4.heap.size W4 W7) := Lib.hid (HB4_6.out.trans ((hb : Below W6.heap.size W6 W7).mono HB4_6.out.size))
          have HB5_7 : Hid (Below W5.heap.size W5 W7) := Lib.hid (HB5_6.out.trans ((hb : Below W6.heap.size W6 W7).mono HB5_6.out.size))
          have HB6_7 : Hid (Below W6.heap.size W6 W7) := Lib.hid (hb)
          clear hb
          clear p_0 p_1 p_2 p_3 p_4 p_5 p_6 p_7 p_8 p_9 p_10 p_11
          obtain ⟨W8, HW8⟩ : ∃ W, Hid ((W7.alloc (.cells #[.int .i64 iC, .int .i64 aC, .int .i64 yC, .int .i64 dC, .int .i64 qC, .int .i64 pC, .int .i64 fC, .int .i64 phC, .int .i64 mC, .int .i64 rC, .int .i64 vC, .bool gC] 23)) = W) := ⟨_, Lib.hid rfl⟩
          have HB0_8 : Hid (Below W0.heap.size W0 W8) := Lib.hid (HB0_7.out.trans ((by rw [← HW8.out]; exact (Below.refl _ _).alloc (Nat.le_refl _) _ : Below W7.heap.size W7 W8).mono HB0_7.out.size))
          have HB1_8 : Hid (Below W1.heap.size W1 W8) := Lib.hid (HB1_7.out.trans ((by rw [← HW8.out]; exact (Below.refl _ _).alloc (Nat.le_refl _) _ : Below W7.heap.size W7 W8).mono HB1_7.out.size))
          have HB2_8 : Hid (Below W2.heap.size W2 W8) := Lib.hid (HB2_7.out.trans ((by rw [← HW8.out]; exact (Below.refl _ _).alloc (Nat.le_refl _) _ : Below W7.heap.size W7 W8).mono HB2_7.out.size))
          have HB3_8 : Hid (Below W3.heap.size W3 W8) := Lib.hid (HB3_7.out.trans ((by rw [← HW8.out]; exact (Below.refl _ _).alloc (Nat.le_refl _) _ : Below W7.heap.size W7 W8).mono HB3_7.out.size))
          have HB4_8 : Hid (Below W4.heap.size W4 W8) := Lib.hid (HB4_7.out.trans ((by rw [← HW8.out]; exact (Below.refl _ _).alloc (Nat.le_refl _) _ : Below W7.heap.size W7 W8).mono HB4_7.out.size))
          have HB5_8 : Hid (Below W5.heap.size W5 W8) := Lib.hid (HB5_7.out.trans ((by rw [← HW8.out]; exact (Below.refl _ _).alloc (Nat.le_refl _) _ : Below W7.heap.size W7 W8).mono HB5_7.out.size))
          have HB6_8 : Hid (Below W6.heap.size W6 W8) := Lib.hid (HB6_7.out.trans ((by rw [← HW8.out]; exact (Below.refl _ _).alloc (Nat.le_refl _) _ : Below W7.heap.size W7 W8).mono HB6_7.out.size))
          have HB7_8 : Hid (Below W7.heap.size W7 W8) := Lib.hid (by rw [← HW8.out]; exact (Below.refl _ _).alloc (Nat.le_refl _) _)
          have HX_c : Hid (∀ W, Below W8.heap.size W8 W → W.heap[W7.heap.size]? = some (.cells #[.int .i64 iC, .int .i64 aC, .int .i64 yC, .int .i64 dC, .int .i64 qC, .int .i64 pC, .int .i64 fC, .int .i64 phC, .int .i64 mC, .int .i64 rC, .int .i64 vC, .bool gC] 23 (0, 0))) := Lib.hid (fun W hb => (hb.block _ (by rw [← HW8.out]; simp)).trans (by rw [← HW8.out]; exact heap_alloc_new _ _))
          go_upto_region 11 with fail
          go_cut [102] (fun s wx => s = .bool false ∧ Below W8.heap.size W8 wx)
          case first =>
            rw [HW8.out]
            refine wp_region_held_drew (S := fun W => Below W8.heap.size W8 W) (by kernel_rfl) (Below.refl _ _).drew (fun _ => ?_)
            obtain ⟨W9, hW9⟩ : ∃ x, x = W8.drew := ⟨_, rfl⟩
            rw [← hW9]
            have HB0_9 : Hid (Below W0.heap.size W0 W9) := Lib.hid (HB0_8.out.trans ((by rw [hW9]; exact (Below.refl _ _).drew : Below W8.heap.size W8 W9).mono HB0_8.out.size))
            have HB1_9 : Hid (Below W1.heap.size W1 W9) := Lib.hid (HB1_8.out.trans ((by rw [hW9]; exact (Below.refl _ _).drew : Below W8.heap.size W8 W9).mono HB1_8.out.size))
            have HB2_9 : Hid (Below W2.heap.size W2 W9) := Lib.hid (HB2_8.out.trans ((by rw [hW9]; exact (Below.refl _ _).drew : Below W8.heap.size W8 W9).mono HB2_8.out.size))
            have HB3_9 : Hid (Below W3.heap.size W3 W9) := Lib.hid (HB3_8.out.trans ((by rw [hW9]; exact (Below.refl _ _).drew : Below W8.heap.size W8 W9).mono HB3_8.out.size))
            have HB4_9 : Hid (Below W4.heap.size W4 W9) := Lib.hid (HB4_8.out.trans ((by rw [hW9]; exact (Below.refl _ _).drew : Below W8.heap.size W8 W9).mono HB4_8.out.size))
            have HB5_9 : Hid (Below W5.heap.size W5 W9) := Lib.hid (HB5_8.out.trans ((by rw [hW9]; exact (Below.refl _ _).drew : Below W8.heap.size W8 W9).mono HB5_8.out.size))
            have HB6_9 : Hid (Below W6.heap.size W6 W9) := Lib.hid (HB6_8.out.trans ((by rw [hW9]; exact (Below.refl _ _).drew : Below W8.heap.size W8 W9).mono HB6_8.out.size))
            have HB7_9 : Hid (Below W7.heap.size W7 W9) := Lib.hid (HB7_8.out.trans ((by rw [hW9]; exact (Below.refl _ _).drew : Below W8.heap.size W8 W9).mono HB7_8.out.size))
            have HB8_9 : Hid (Below W8.heap.size W8 W9) := Lib.hid (by rw [hW9]; exact (Below.refl _ _).drew)
            clear hW9
            refine wpAnyH_take (i := 0) (v := .agg #[.int .i64 i, .int .i64 a, .int .i64 y, .int .i64 d, .int .i64 q, .int .i64 p, .int .i64 f, .int .i64 2, .int .i64 a1, .int .i64 a2, .int .i64 (v + 1), .bool false]) rfl (by kernel_rfl) (by kernel_rfl) (by kernel_rfl) (fun _ _ _ h => h) (Or.inl ⟨by kernel_rfl, ?h0⟩) HB8_9.out ?_
            case h0 => (intro WX hWX; obtain ⟨y0_0, y0_1, y0_2, y0_3, y0_4, y0_5, y0_6, y0_7, y0_8, y0_9, y0_10, y0_11⟩ := cells12 (HX_p.out WX (HB4_8.out.trans ((show Below W8.heap.size W8 WX from hWX).mono HB4_8.out.size))); go_simp)
            go_simp
            refine wpAnyH_ready (rs := [1]) (by kernel_rfl) (by simp) ?_
            refine AllReadyH.cons rfl (fun K hK => ?_) AllReadyH.nil
            go_simp
            go_wp2_with (refine Calls.mono (order.right_is i a y d q p f 2 a1 a2 (v + 1) false HFA.out HRP.out _) ?_; rintro e10 W10 ⟨rfl, hb⟩)
            have HB0_10 : Hid (Below W0.heap.size W0 W10) := Lib.hid (HB0_9.out.trans ((hb : Below W9.heap.size W9 W10).mono HB0_9.out.size))
            have HB1_10 : Hid (Below W1.heap.size W1 W10) := Lib.hid (HB1_9.out.trans ((hb : Below W9.heap.size W9 W10).mono HB1_9.out.size))
            have HB2_10 : Hid (Below W2.heap.size W2 W10) := Lib.hid (HB2_9.out.trans ((hb : Below W9.heap.size W9 W10).mono HB2_9.out.size))
            have HB3_10 : Hid (Below W3.heap.size W3 W10) := Lib.hid (HB3_9.out.trans ((hb : Below W9.heap.size W9 W10).mono HB3_9.out.size))
            have HB4_10 : Hid (Below W4.heap.size W4 W10) := Lib.hid (HB4_9.out.trans ((hb : Below W9.heap.size W9 W10).mono HB4_9.out.size))
            have HB5_10 : Hid (Below W5.heap.size W5 W10) := Lib.hid (HB5_9.out.trans ((hb : Below W9.heap.size W9 W10).mono HB5_9.out.size))
            have HB6_10 : Hid (Below W6.heap.size W6 W10) := Lib.hid (HB6_9.out.trans ((hb : Below W9.heap.size W9 W10).mono HB6_9.out.size))
            have HB7_10 : Hid (Below W7.heap.size W7 W10) := Lib.hid (HB7_9.out.trans ((hb : Below W9.heap.size W9 W10).mono HB7_9.out.size))
            have HB8_10 : Hid (Below W8.heap.size W8 W10) := Lib.hid (HB8_9.out.trans ((hb : Below W9.heap.size W9 W10).mono HB8_9.out.size))
            have HB9_10 : Hid (Below W9.heap.size W9 W10) := Lib.hid (hb)
            clear hb
            refine hK.out _ _ HB8_10.out (fun _ => ?_)
            clear hK K
            go_simp
            refine wpAnyH_take (i := 2) (v := .bool false) rfl (by kernel_rfl) (by kernel_rfl) (by kernel_rfl) (fun _ _ _ h => h) (Or.inl ⟨by kernel_rfl, ?h2⟩) HB8_10.out ?_
            case h2 => (intro WX hWX; go_simp)
            go_simp
            refine wpAnyH_take (i := 3) (v := .bool false) rfl (by kernel_rfl) (by kernel_rfl) (by kernel_rfl) (fun _ _ _ h => h) (Or.inl ⟨by kernel_rfl, ?h3⟩) HB8_10.out ?_
            case h3 => (intro WX hWX; go_simp)
            go_simp
            refine wpAnyH_take (i := 4) (v := .agg #[.int .i64 i, .int .i64 a, .int .i64 y, .int .i64 d, .int .i64 q, .int .i64 p, .int .i64 f, .int .i64 2, .int .i64 a1, .int .i64 a2, .int .i64 (v + 1), .bool false]) rfl (by kernel_rfl) (by kernel_rfl) (by kernel_rfl) (fun _ _ _ h => h) (Or.inl ⟨by kernel_rfl, ?h4⟩) HB8_10.out ?_
            case h4 => (intro WX hWX; obtain ⟨y0_0, y0_1, y0_2, y0_3, y0_4, y0_5, y0_6, y0_7, y0_8, y0_9, y0_10, y0_11⟩ := cells12 (HX_p.out WX (HB4_8.out.trans ((show Below W8.heap.size W8 WX from hWX).mono HB4_8.out.size))); go_simp)
            go_simp
            refine wpAnyH_take (i := 6) (v := .agg #[.int .i64 i, .int .i64 a, .int .i64 y, .int .i64 d, .int .i64 q, .int .i64 p, .int .i64 f, .int .i64 2, .int .i64 0, .int .i64 0, .int .i64 v, .bool false]) rfl (by kernel_rfl) (by kernel_rfl) (by kernel_rfl) (fun _ _ _ h => h) (Or.inl ⟨by kernel_rfl, ?h6⟩) HB8_10.out ?_
            case h6 => (intro WX hWX; obtain ⟨y0_0, y0_1, y0_2, y0_3, y0_4, y0_5, y0_6, y0_7, y0_8, y0_9, y0_10, y0_11⟩ := cells12 (HX0.out WX (HB0_8.out.trans ((show Below W8.heap.size W8 WX from hWX).mono HB0_8.out.size))); go_simp)
            go_simp
            refine wpAnyH_ready (rs := [5]) (by kernel_rfl) (by simp) ?_
            refine AllReadyH.cons rfl (fun K hK => ?_) AllReadyH.nil
            go_simp
            go_wp2_with (refine Calls.mono (order.open_is i a y d q p f 2 a1 a2 (v + 1) false HFA.out HO2.out _) ?_; rintro e11 W11 ⟨rfl, hb⟩)
            have HB0_11 : Hid (Below W0.heap.size W0 W11) := Lib.hid (HB0_10.out.trans ((hb : Below W10.heap.size W10 W11).mono HB0_10.out.size))
            have HB1_11 : Hid (Below W1.heap.size W1 W11) := Lib.hid (HB1_10.out.trans ((hb : Below W10.heap.size W10 W11).mono HB1_10.out.size))
            have HB2_11 : Hid (Below W2.heap.size W2 W11) := Lib.hid (HB2_10.out.trans ((hb : Below W10.heap.size W10 W11).mono HB2_10.out.size))
            have HB3_11 : Hid (Below W3.heap.size W3 W11) := Lib.hid (HB3_10.out.trans ((hb : Below W10.heap.size W10 W11).mono HB3_10.out.size))
            have HB4_11 : Hid (Below W4.heap.size W4 W11) := Lib.hid (HB4_10.out.trans ((hb : Below W10.heap.size W10 W11).mono HB4_10.out.size))
            have HB5_11 : Hid (Below W5.heap.size W5 W11) := Lib.hid (HB5_10.out.trans ((hb : Below W10.heap.size W10 W11).mono HB5_10.out.size))
            have HB6_11 : Hid (Below W6.heap.size W6 W11) := Lib.hid (HB6_10.out.trans ((hb : Below W10.heap.size W10 W11).mono HB6_10.out.size))
            have HB7_11 : Hid (Below W7.heap.size W7 W11) := Lib.hid (HB7_10.out.trans ((hb : Below W10.heap.size W10 W11).mono HB7_10.out.size))
            have HB8_11 : Hid (Below W8.heap.size W8 W11) := Lib.hid (HB8_10.out.trans ((hb : Below W10.heap.size W10 W11).mono HB8_10.out.size))
            have HB9_11 : Hid (Below W9.heap.size W9 W11) := Lib.hid (HB9_10.out.trans ((hb : Below W10.heap.size W10 W11).mono HB9_10.out.size))
            have HB10_11 : Hid (Below W10.heap.size W10 W11) := Lib.hid (hb)
            clear hb
            refine hK.out _ _ HB8_11.out (fun _ => ?_)
            clear hK K
            go_simp
            refine wpAnyH_ready (rs := [7]) (by kernel_rfl) (by simp) ?_
            refine AllReadyH.cons rfl (fun K hK => ?_) AllReadyH.nil
            go_simp
            go_wp2_with (refine Calls.mono (order.open_is i a y d q p f 2 0 0 v false HF.out HO1.out _) ?_; rintro e12 W12 ⟨rfl, hb⟩)
            have HB0_12 : Hid (Below W0.heap.size W0 W12) := Lib.hid (HB0_11.out.trans ((hb : Below W11.heap.size W11 W12).mono HB0_11.out.size))
            have HB1_12 : Hid (Below W1.heap.size W1 W12) := Lib.hid (HB1_11.out.trans ((hb : Below W11.heap.size W11 W12).mono HB1_11.out.size))
            have HB2_12 : Hid (Below W2.heap.size W2 W12) := Lib.hid (HB2_11.out.trans ((hb : Below W11.heap.size W11 W12).mono HB2_11.out.size))
            have HB3_12 : Hid (Below W3.heap.size W3 W12) := Lib.hid (HB3_11.out.trans ((hb : Below W11.heap.size W11 W12).mono HB3_11.out.size))
            have HB4_12 : Hid (Below W4.heap.size W4 W12) := Lib.hid (HB4_11.out.trans ((hb : Below W11.heap.size W11 W12).mono HB4_11.out.size))
            have HB5_12 : Hid (Below W5.heap.size W5 W12) := Lib.hid (HB5_11.out.trans ((hb : Below W11.heap.size W11 W12).mono HB5_11.out.size))
            have HB6_12 : Hid (Below W6.heap.size W6 W12) := Lib.hid (HB6_11.out.trans ((hb : Below W11.heap.size W11 W12).mono HB6_11.out.size))
            have HB7_12 : Hid (Below W7.heap.size W7 W12) := Lib.hid (HB7_11.out.trans ((hb : Below W11.heap.size W11 W12).mono HB7_11.out.size))
            have HB8_12 : Hid (Below W8.heap.size W8 W12) := Lib.hid (HB8_11.out.trans ((hb : Below W11.heap.size W11 W12).mono HB8_11.out.size))
            have HB9_12 : Hid (Below W9.heap.size W9 W12) := Lib.hid (HB9_11.out.trans ((hb : Below W11.heap.size W11 W12).mono HB9_11.out.size))
            have HB10_12 : Hid (Below W10.heap.size W10 W12) := Lib.hid (HB10_11.out.trans ((hb : Below W11.heap.size W11 W12).mono HB10_11.out.size))
            have HB11_12 : Hid (Below W11.heap.size W11 W12) := Lib.hid (hb)
            clear hb
            refine hK.out _ _ HB8_12.out (fun _ => ?_)
            clear hK K
            go_simp
            refine wpAnyH_take (i := 8) (v := .bool false) rfl (by kernel_rfl) (by kernel_rfl) (by kernel_rfl) (fun _ _ _ h => h) (Or.inl ⟨by kernel_rfl, ?h8⟩) HB8_12.out ?_
            case h8 => (intro WX hWX; go_simp)
            go_simp
            refine wpAnyH_take (i := 9) (v := .bool false) rfl (by kernel_rfl) (by kernel_rfl) (by kernel_rfl) (fun _ _ _ h => h) (Or.inl ⟨by kernel_rfl, ?h9⟩) HB8_12.out ?_
            case h9 => (intro WX hWX; go_simp)
            go_simp
            refine wpAnyH_take (i := 10) (v := .bool false) rfl (by kernel_rfl) (by kernel_rfl) (by kernel_rfl) (fun _ _ _ h => h) (Or.inl ⟨by kernel_rfl, ?h10⟩) HB8_12.out ?_
            case h10 => (intro WX hWX; go_simp)
            go_simp
            rcases eq_cases e2 0 with ⟨HE2, ha2, hb2⟩ | ⟨HE2, ha2, hb2⟩
            · obtain ⟨rfl, hle⟩ := HWW.out HE2.out
              obtain rfl : e2 = 0 := HE2.out
              refine wpAnyH_take (i := 11) (v := .int .i64 0) rfl (by kernel_rfl) (by kernel_rfl) (by kernel_rfl) (fun _ _ _ h => h) (Or.inl ⟨by kernel_rfl, ?h11⟩) HB8_12.out ?_
              case h11 => (intro WX hWX; go_simp)
              go_simp
              refine wpAnyH_take (i := 12) (v := .bool true) rfl (by kernel_rfl) (by kernel_rfl) (by kernel_rfl) (fun _ _ _ h => h) (Or.inl ⟨by kernel_rfl, ?h12⟩) HB8_12.out ?_
              case h12 => (intro WX hWX; go_simp)
              go_simp
              refine wpAnyH_take (i := 13) (v := .bool true) rfl (by kernel_rfl) (by kernel_rfl) (by kernel_rfl) (fun _ _ _ h => h) (Or.inl ⟨by kernel_rfl, ?h13⟩) HB8_12.out ?_
              case h13 => (intro WX hWX; go_simp)
              go_simp
              refine wpAnyH_take (i := 14) (v := .int .i64 0) rfl (by kernel_rfl) (by kernel_rfl) (by kernel_rfl) (fun _ _ _ h => h) (Or.inl ⟨by kernel_rfl, ?h14⟩) HB8_12.out ?_
              case h14 => (intro WX hWX; go_simp)
              go_simp
              refine wpAnyH_take (i := 15) (v := .bool true) rfl (by kernel_rfl) (by kernel_rfl) (by kernel_rfl) (fun _ _ _ h => h) (Or.inl ⟨by kernel_rfl, ?h15⟩) HB8_12.out ?_
              case h15 => (intro WX hWX; go_simp)
              go_simp
              refine wpAnyH_take (i := 16) (v := .bool true) rfl (by kernel_rfl) (by kernel_rfl) (by kernel_rfl) (fun _ _ _ h => h) (Or.inl ⟨by kernel_rfl, ?h16⟩) HB8_12.out ?_
              case h16 => (intro WX hWX; go_simp)
              go_simp
              refine wpAnyH_take (i := 17) (v := .bool true) rfl (by kernel_rfl) (by kernel_rfl) (by kernel_rfl) (fun _ _ _ h => h) (Or.inl ⟨by kernel_rfl, ?h17⟩) HB8_12.out ?_
              case h17 => (intro WX hWX; go_simp)
              go_simp
              refine wpAnyH_take (i := 18) (v := .int .i64 g2) rfl (by kernel_rfl) (by kernel_rfl) (by kernel_rfl) (fun _ _ _ h => h) (Or.inl ⟨by kernel_rfl, ?h18⟩) HB8_12.out ?_
              case h18 => (intro WX hWX; go_simp)
              go_simp
              refine wpAnyH_take (i := 19) (v := .int .i64 g1) rfl (by kernel_rfl) (by kernel_rfl) (by kernel_rfl) (fun _ _ _ h => h) (Or.inl ⟨by kernel_rfl, ?h19⟩) HB8_12.out ?_
              case h19 => (intro WX hWX; go_simp)
              go_simp
              refine wpAnyH_take (i := 20) (v := .bool false) rfl (by kernel_rfl) (by kernel_rfl) (by kernel_rfl) (fun _ _ _ h => h) (Or.inl ⟨by kernel_rfl, ?h20⟩) HB8_12.out ?_
              case h20 => (intro WX hWX; go_simp)
              go_simp
              refine wpAnyH_take (i := 21) (v := .bool false) rfl (by kernel_rfl) (by kernel_rfl) (by kernel_rfl) (fun _ _ _ h => h) (Or.inl ⟨by kernel_rfl, ?h21⟩) HB8_12.out ?_
              case h21 => (intro WX hWX; go_simp)
              go_simp
              refine wpAnyH_take (i := 22) (v := .bool false) rfl (by kernel_rfl) (by kernel_rfl) (by kernel_rfl) (fun _ _ _ h => h) (Or.inl ⟨by kernel_rfl, ?h22⟩) HB8_12.out ?_
              case h22 => (intro WX hWX; go_simp)
              go_simp
              refine wpAnyH_take (i := 23) (v := .bool false) rfl (by kernel_rfl) (by kernel_rfl) (by kernel_rfl) (fun _ _ _ h => h) (Or.inl ⟨by kernel_rfl, ?h23⟩) HB8_12.out ?_
              case h23 => (intro WX hWX; go_simp)
              go_simp
              refine wpAnyH_take (i := 24) (v := .int .i64 0) rfl (by kernel_rfl) (by kernel_rfl) (by kernel_rfl) (fun _ _ _ h => h) (Or.inl ⟨by kernel_rfl, ?h24⟩) HB8_12.out ?_
              case h24 => (intro WX hWX; go_simp)
              go_simp
              refine wpAnyH_take (i := 25) (v := .bool false) rfl (by kernel_rfl) (by kernel_rfl) (by kernel_rfl) (fun _ _ _ h => h) (Or.inl ⟨by kernel_rfl, ?h25⟩) HB8_12.out ?_
              case h25 => (intro WX hWX; go_simp)
              go_simp
              refine wpAnyH_take (i := 26) (v := .bool false) rfl (by kernel_rfl) (by kernel_rfl) (by kernel_rfl) (fun _ _ _ h => h) (Or.inl ⟨by kernel_rfl, ?h26⟩) HB8_12.out ?_
              case h26 => (intro WX hWX; go_simp)
              go_simp
              refine wpAnyH_take (i := 27) (v := undef) rfl (by kernel_rfl) (by kernel_rfl) (by kernel_rfl) (fun _ _ _ h => h) (Or.inr ⟨by kernel_rfl, rfl⟩) HB8_12.out ?_
              go_simp
              refine wpAnyH_take (i := 28) (v := undef) rfl (by kernel_rfl) (by kernel_rfl) (by kernel_rfl) (fun _ _ _ h => h) (Or.inr ⟨by kernel_rfl, rfl⟩) HB8_12.out ?_
              go_simp
              refine wpAnyH_take (i := 29) (v := .bool false) rfl (by kernel_rfl) (by kernel_rfl) (by kernel_rfl) (fun _ _ _ h => h) (Or.inl ⟨by kernel_rfl, ?h29⟩) HB8_12.out ?_
              case h29 => (intro WX hWX; go_simp)
              go_simp
              refine wpAnyH_take (i := 30) (v := .bool false) rfl (by kernel_rfl) (by kernel_rfl) (by kernel_rfl) (fun _ _ _ h => h) (Or.inl ⟨by kernel_rfl, ?h30⟩) HB8_12.out ?_
              case h30 => (intro WX hWX; go_simp)
              go_simp
              refine wpAnyH_take (i := 31) (v := .bool false) rfl (by kernel_rfl) (by kernel_rfl) (by kernel_rfl) (fun _ _ _ h => h) (Or.inl ⟨by kernel_rfl, ?h31⟩) HB8_12.out ?_
              case h31 => (intro WX hWX; go_simp)
              go_simp
              refine wpAnyH_take (i := 32) (v := .int .i64 eC) rfl (by kernel_rfl) (by kernel_rfl) (by kernel_rfl) (fun _ _ _ h => h) (Or.inl ⟨by kernel_rfl, ?h32⟩) HB8_12.out ?_
              case h32 => (intro WX hWX; go_simp)
              go_simp
              refine wpAnyH_take (i := 33) (v := .bool false) rfl (by kernel_rfl) (by kernel_rfl) (by kernel_rfl) (fun _ _ _ h => h) (Or.inl ⟨by kernel_rfl, ?h33⟩) HB8_12.out ?_
              case h33 => (intro WX hWX; go_simp)
              go_simp
              refine wpAnyH_take (i := 34) (v := .bool false) rfl (by kernel_rfl) (by kernel_rfl) (by kernel_rfl) (fun _ _ _ h => h) (Or.inl ⟨by kernel_rfl, ?h34⟩) HB8_12.out ?_
              case h34 => (intro WX hWX; go_simp)
              go_simp
              refine wpAnyH_take (i := 35) (v := .bool false) rfl (by kernel_rfl) (by kernel_rfl) (by kernel_rfl) (fun _ _ _ h => h) (Or.inl ⟨by kernel_rfl, ?h35⟩) HB8_12.out ?_
              case h35 => (intro WX hWX; go_simp)
              go_simp
              refine wpAnyH_take (i := 36) (v := .pointer (some ⟨w.heap.size, 11, none⟩)) rfl (by kernel_rfl) (by kernel_rfl) (by kernel_rfl) (fun _ _ _ h => h) (Or.inl ⟨by kernel_rfl, ?h36⟩) HB8_12.out ?_
              case h36 => (intro WX hWX; go_simp)
              go_simp
              refine wpAnyH_take (i := 37) (v := .bool false) rfl (by kernel_rfl) (by kernel_rfl) (by kernel_rfl) (fun _ _ _ h => h) (Or.inl ⟨by kernel_rfl, ?h37⟩) HB8_12.out ?_
              case h37 => (intro WX hWX; obtain ⟨y0_0, y0_1, y0_2, y0_3, y0_4, y0_5, y0_6, y0_7, y0_8, y0_9, y0_10, y0_11⟩ := cells12 (HX0.out WX (HB0_8.out.trans ((show Below W8.heap.size W8 WX from hWX).mono HB0_8.out.size))); go_simp)
              go_simp
              refine wpAnyH_take (i := 38) (v := .bool false) rfl (by kernel_rfl) (by kernel_rfl) (by kernel_rfl) (fun _ _ _ h => h) (Or.inl ⟨by kernel_rfl, ?h38⟩) HB8_12.out ?_
              case h38 => (intro WX hWX; go_simp)
              go_simp
              refine wpAnyH_done (by kernel_rfl) ?_ _
              go_wp2_with fail
              go_meet
              exact ⟨rfl, HB8_12.out⟩
            · rcases eq_cases e1 0 with ⟨HE1, ha1, hb1⟩ | ⟨HE1, ha1, hb1⟩
              · refine wpAnyH_take (i := 11) (v := .int .i64 e1) rfl (by kernel_rfl) (by kernel_rfl) (by kernel_rfl) (fun _ _ _ h => h) (Or.inl ⟨by kernel_rfl, ?h11⟩) HB8_12.out ?_
                case h11 => (intro WX hWX; go_simp)
                go_simp
                refine wpAnyH_take (i := 12) (v := .bool true) rfl (by kernel_rfl) (by kernel_rfl) (by kernel_rfl) (fun _ _ _ h => h) (Or.inl ⟨by kernel_rfl, ?h12⟩) HB8_12.out ?_
                case h12 => (intro WX hWX; go_simp)
                go_simp
                refine wpAnyH_take (i := 13) (v := .bool true) rfl (by kernel_rfl) (by kernel_rfl) (by kernel_rfl) (fun _ _ _ h => h) (Or.inl ⟨by kernel_rfl, ?h13⟩) HB8_12.out ?_
                case h13 => (intro WX hWX; go_simp)
                go_simp
                refine wpAnyH_take (i := 14) (v := .int .i64 e2) rfl (by kernel_rfl) (by kernel_rfl) (by kernel_rfl) (fun _ _ _ h => h) (Or.inl ⟨by kernel_rfl, ?h14⟩) HB8_12.out ?_
                case h14 => (intro WX hWX; go_simp)
                go_simp
                refine wpAnyH_take (i := 15) (v := .bool false) rfl (by kernel_rfl) (by kernel_rfl) (by kernel_rfl) (fun _ _ _ h => h) (Or.inl ⟨by kernel_rfl, ?h15⟩) HB8_12.out ?_
                case h15 => (intro WX hWX; go_simp)
                go_simp
                refine wpAnyH_take (i := 16) (v := .bool false) rfl (by kernel_rfl) (by kernel_rfl) (by kernel_rfl) (fun _ _ _ h => h) (Or.inl ⟨by kernel_rfl, ?h16⟩) HB8_12.out ?_
                case h16 => (intro WX hWX; go_simp)
                go_simp
                refine wpAnyH_take (i := 17) (v := .bool false) rfl (by kernel_rfl) (by kernel_rfl) (by kernel_rfl) (fun _ _ _ h => h) (Or.inl ⟨by kernel_rfl, ?h17⟩) HB8_12.out ?_
                case h17 => (intro WX hWX; go_simp)
                go_simp
                refine wpAnyH_take (i := 18) (v := undef) rfl (by kernel_rfl) (by kernel_rfl) (by kernel_rfl) (fun _ _ _ h => h) (Or.inr ⟨by kernel_rfl, rfl⟩) HB8_12.out ?_
                go_simp
                refine wpAnyH_take (i := 19) (v := undef) rfl (by kernel_rfl) (by kernel_rfl) (by kernel_rfl) (fun _ _ _ h => h) (Or.inr ⟨by kernel_rfl, rfl⟩) HB8_12.out ?_
                go_simp
                refine wpAnyH_take (i := 20) (v := undef) rfl (by kernel_rfl) (by kernel_rfl) (by kernel_rfl) (fun _ _ _ h => h) (Or.inr ⟨by kernel_rfl, rfl⟩) HB8_12.out ?_
                go_simp
                refine wpAnyH_take (i := 21) (v := .bool false) rfl (by kernel_rfl) (by kernel_rfl) (by kernel_rfl) (fun _ _ _ h => h) (Or.inl ⟨by kernel_rfl, ?h21⟩) HB8_12.out ?_
                case h21 => (intro WX hWX; go_simp)
                go_simp
                refine wpAnyH_take (i := 22) (v := .bool false) rfl (by kernel_rfl) (by kernel_rfl) (by kernel_rfl) (fun _ _ _ h => h) (Or.inl ⟨by kernel_rfl, ?h22⟩) HB8_12.out ?_
                case h22 => (intro WX hWX; go_simp)
                go_simp
                refine wpAnyH_take (i := 23) (v := .bool false) rfl (by kernel_rfl) (by kernel_rfl) (by kernel_rfl) (fun _ _ _ h => h) (Or.inl ⟨by kernel_rfl, ?h23⟩) HB8_12.out ?_
                case h23 => (intro WX hWX; go_simp)
                go_simp
                refine wpAnyH_take (i := 24) (v := .int .i64 e1) rfl (by kernel_rfl) (by kernel_rfl) (by kernel_rfl) (fun _ _ _ h => h) (Or.inl ⟨by kernel_rfl, ?h24⟩) HB8_12.out ?_
                case h24 => (intro WX hWX; go_simp)
                go_simp
                refine wpAnyH_take (i := 25) (v := .bool false) rfl (by kernel_rfl) (by kernel_rfl) (by kernel_rfl) (fun _ _ _ h => h) (Or.inl ⟨by kernel_rfl, ?h25⟩) HB8_12.out ?_
                case h25 => (intro WX hWX; go_simp)
                go_simp
                refine wpAnyH_take (i := 26) (v := .bool false) rfl (by kernel_rfl) (by kernel_rfl) (by kernel_rfl) (fun _ _ _ h => h) (Or.inl ⟨by kernel_rfl, ?h26⟩) HB8_12.out ?_
                case h26 => (intro WX hWX; go_simp)
                go_simp
                refine wpAnyH_take (i := 27) (v := undef) rfl (by kernel_rfl) (by kernel_rfl) (by kernel_rfl) (fun _ _ _ h => h) (Or.inr ⟨by kernel_rfl, rfl⟩) HB8_12.out ?_
                go_simp
                refine wpAnyH_take (i := 28) (v := undef) rfl (by kernel_rfl) (by kernel_rfl) (by kernel_rfl) (fun _ _ _ h => h) (Or.inr ⟨by kernel_rfl, rfl⟩) HB8_12.out ?_
                go_simp
                refine wpAnyH_take (i := 29) (v := .bool false) rfl (by kernel_rfl) (by kernel_rfl) (by kernel_rfl) (fun _ _ _ h => h) (Or.inl ⟨by kernel_rfl, ?h29⟩) HB8_12.out ?_
                case h29 => (intro WX hWX; go_simp)
                go_simp
                refine wpAnyH_take (i := 30) (v := .bool false) rfl (by kernel_rfl) (by kernel_rfl) (by kernel_rfl) (fun _ _ _ h => h) (Or.inl ⟨by kernel_rfl, ?h30⟩) HB8_12.out ?_
                case h30 => (intro WX hWX; go_simp)
                go_simp
                refine wpAnyH_take (i := 31) (v := .bool false) rfl (by kernel_rfl) (by kernel_rfl) (by kernel_rfl) (fun _ _ _ h => h) (Or.inl ⟨by kernel_rfl, ?h31⟩) HB8_12.out ?_
                case h31 => (intro WX hWX; go_simp)
                go_simp
                refine wpAnyH_take (i := 32) (v := .int .i64 eC) rfl (by kernel_rfl) (by kernel_rfl) (by kernel_rfl) (fun _ _ _ h => h) (Or.inl ⟨by kernel_rfl, ?h32⟩) HB8_12.out ?_
                case h32 => (intro WX hWX; go_simp)
                go_simp
                refine wpAnyH_take (i := 33) (v := .bool false) rfl (by kernel_rfl) (by kernel_rfl) (by kernel_rfl) (fun _ _ _ h => h) (Or.inl ⟨by kernel_rfl, ?h33⟩) HB8_12.out ?_
                case h33 => (intro WX hWX; go_simp)
                go_simp
                refine wpAnyH_take (i := 34) (v := .bool false) rfl (by kernel_rfl) (by kernel_rfl) (by kernel_rfl) (fun _ _ _ h => h) (Or.inl ⟨by kernel_rfl, ?h34⟩) HB8_12.out ?_
                case h34 => (intro WX hWX; go_simp)
                go_simp
                refine wpAnyH_take (i := 35) (v := .bool false) rfl (by kernel_rfl) (by kernel_rfl) (by kernel_rfl) (fun _ _ _ h => h) (Or.inl ⟨by kernel_rfl, ?h35⟩) HB8_12.out ?_
                case h35 => (intro WX hWX; go_simp)
                go_simp
                refine wpAnyH_take (i := 36) (v := .pointer (some ⟨w.heap.size, 11, none⟩)) rfl (by kernel_rfl) (by kernel_rfl) (by kernel_rfl) (fun _ _ _ h => h) (Or.inl ⟨by kernel_rfl, ?h36⟩) HB8_12.out ?_
                case h36 => (intro WX hWX; go_simp)
                go_simp
                refine wpAnyH_take (i := 37) (v := .bool false) rfl (by kernel_rfl) (by kernel_rfl) (by kernel_rfl) (fun _ _ _ h => h) (Or.inl ⟨by kernel_rfl, ?h37⟩) HB8_12.out ?_
                case h37 => (intro WX hWX; obtain ⟨y0_0, y0_1, y0_2, y0_3, y0_4, y0_5, y0_6, y0_7, y0_8, y0_9, y0_10, y0_11⟩ := cells12 (HX0.out WX (HB0_8.out.trans ((show Below W8.heap.size W8 WX from hWX).mono HB0_8.out.size))); go_simp)
                go_simp
                refine wpAnyH_take (i := 38) (v := .bool false) rfl (by kernel_rfl) (by kernel_rfl) (by kernel_rfl) (fun _ _ _ h => h) (Or.inl ⟨by kernel_rfl, ?h38⟩) HB8_12.out ?_
                case h38 => (intro WX hWX; go_simp)
                go_simp
                refine wpAnyH_done (by kernel_rfl) ?_ _
                go_wp2_with fail
                go_meet
                exact ⟨rfl, HB8_12.out⟩
              · refine wpAnyH_take (i := 11) (v := .int .i64 e1) rfl (by kernel_rfl) (by kernel_rfl) (by kernel_rfl) (fun _ _ _ h => h) (Or.inl ⟨by kernel_rfl, ?h11⟩) HB8_12.out ?_
                case h11 => (intro WX hWX; go_simp)
                go_simp
                refine wpAnyH_take (i := 12) (v := .bool false) rfl (by kernel_rfl) (by kernel_rfl) (by kernel_rfl) (fun _ _ _ h => h) (Or.inl ⟨by kernel_rfl, ?h12⟩) HB8_12.out ?_
                case h12 => (intro WX hWX; go_simp)
                go_simp
                refine wpAnyH_take (i := 13) (v := .bool false) rfl (by kernel_rfl) (by kernel_rfl) (by kernel_rfl) (fun _ _ _ h => h) (Or.inl ⟨by kernel_rfl, ?h13⟩) HB8_12.out ?_
                case h13 => (intro WX hWX; go_simp)
                go_simp
                refine wpAnyH_take (i := 14) (v := undef) rfl (by kernel_rfl) (by kernel_rfl) (by kernel_rfl) (fun _ _ _ h => h) (Or.inr ⟨by kernel_rfl, rfl⟩) HB8_12.out ?_
                go_simp
                refine wpAnyH_take (i := 15) (v := undef) rfl (by kernel_rfl) (by kernel_rfl) (by kernel_rfl) (fun _ _ _ h => h) (Or.inr ⟨by kernel_rfl, rfl⟩) HB8_12.out ?_
                go_simp
                refine wpAnyH_take (i := 16) (v := .bool false) rfl (by kernel_rfl) (by kernel_rfl) (by kernel_rfl) (fun _ _ _ h => h) (Or.inl ⟨by kernel_rfl, ?h16⟩) HB8_12.out ?_
                case h16 => (intro WX hWX; go_simp)
                go_simp
                refine wpAnyH_take (i := 17) (v := .bool false) rfl (by kernel_rfl) (by kernel_rfl) (by kernel_rfl) (fun _ _ _ h => h) (Or.inl ⟨by kernel_rfl, ?h17⟩) HB8_12.out ?_
                case h17 => (intro WX hWX; go_simp)
                go_simp
                refine wpAnyH_take (i := 18) (v := undef) rfl (by kernel_rfl) (by kernel_rfl) (by kernel_rfl) (fun _ _ _ h => h) (Or.inr ⟨by kernel_rfl, rfl⟩) HB8_12.out ?_
                go_simp
                refine wpAnyH_take (i := 19) (v := undef) rfl (by kernel_rfl) (by kernel_rfl) (by kernel_rfl) (fun _ _ _ h => h) (Or.inr ⟨by kernel_rfl, rfl⟩) HB8_12.out ?_
                go_simp
                refine wpAnyH_take (i := 20) (v := undef) rfl (by kernel_rfl) (by kernel_rfl) (by kernel_rfl) (fun _ _ _ h => h) (Or.inr ⟨by kernel_rfl, rfl⟩) HB8_12.out ?_
                go_simp
                refine wpAnyH_take (i := 21) (v := .bool false) rfl (by kernel_rfl) (by kernel_rfl) (by kernel_rfl) (fun _ _ _ h => h) (Or.inl ⟨by kernel_rfl, ?h21⟩) HB8_12.out ?_
                case h21 => (intro WX hWX; go_simp)
                go_simp
                refine wpAnyH_take (i := 22) (v := .bool false) rfl (by kernel_rfl) (by kernel_rfl) (by kernel_rfl) (fun _ _ _ h => h) (Or.inl ⟨by kernel_rfl, ?h22⟩) HB8_12.out ?_
                case h22 => (intro WX hWX; go_simp)
                go_simp
                refine wpAnyH_take (i := 23) (v := .bool false) rfl (by kernel_rfl) (by kernel_rfl) (by kernel_rfl) (fun _ _ _ h => h) (Or.inl ⟨by kernel_rfl, ?h23⟩) HB8_12.out ?_
                case h23 => (intro WX hWX; go_simp)
                go_simp
                refine wpAnyH_take (i := 24) (v := .int .i64 e1) rfl (by kernel_rfl) (by kernel_rfl) (by kernel_rfl) (fun _ _ _ h => h) (Or.inl ⟨by kernel_rfl, ?h24⟩) HB8_12.out ?_
                case h24 => (intro WX hWX; go_simp)
                go_simp
                refine wpAnyH_take (i := 25) (v := .bool true) rfl (by kernel_rfl) (by kernel_rfl) (by kernel_rfl) (fun _ _ _ h => h) (Or.inl ⟨by kernel_rfl, ?h25⟩) HB8_12.out ?_
                case h25 => (intro WX hWX; go_simp)
                go_simp
                refine wpAnyH_take (i := 26) (v := .bool true) rfl (by kernel_rfl) (by kernel_rfl) (by kernel_rfl) (fun _ _ _ h => h) (Or.inl ⟨by kernel_rfl, ?h26⟩) HB8_12.out ?_
                case h26 => (intro WX hWX; go_simp)
                go_simp
                refine wpAnyH_take (i := 27) (v := .int .i64 e2) rfl (by kernel_rfl) (by kernel_rfl) (by kernel_rfl) (fun _ _ _ h => h) (Or.inl ⟨by kernel_rfl, ?h27⟩) HB8_12.out ?_
                case h27 => (intro WX hWX; go_simp)
                go_simp
                refine wpAnyH_take (i := 28) (v := .bool false) rfl (by kernel_rfl) (by kernel_rfl) (by kernel_rfl) (fun _ _ _ h => h) (Or.inl ⟨by kernel_rfl, ?h28⟩) HB8_12.out ?_
                case h28 => (intro WX hWX; go_simp)
                go_simp
                refine wpAnyH_take (i := 29) (v := .bool false) rfl (by kernel_rfl) (by kernel_rfl) (by kernel_rfl) (fun _ _ _ h => h) (Or.inl ⟨by kernel_rfl, ?h29⟩) HB8_12.out ?_
                case h29 => (intro WX hWX; go_simp)
                go_simp
                refine wpAnyH_take (i := 30) (v := .bool false) rfl (by kernel_rfl) (by kernel_rfl) (by kernel_rfl) (fun _ _ _ h => h) (Or.inl ⟨by kernel_rfl, ?h30⟩) HB8_12.out ?_
                case h30 => (intro WX hWX; go_simp)
                go_simp
                refine wpAnyH_take (i := 31) (v := .bool false) rfl (by kernel_rfl) (by kernel_rfl) (by kernel_rfl) (fun _ _ _ h => h) (Or.inl ⟨by kernel_rfl, ?h31⟩) HB8_12.out ?_
                case h31 => (intro WX hWX; go_simp)
                go_simp
                refine wpAnyH_take (i := 32) (v := .int .i64 eC) rfl (by kernel_rfl) (by kernel_rfl) (by kernel_rfl) (fun _ _ _ h => h) (Or.inl ⟨by kernel_rfl, ?h32⟩) HB8_12.out ?_
                case h32 => (intro WX hWX; go_simp)
                go_simp
                refine wpAnyH_take (i := 33) (v := .bool false) rfl (by kernel_rfl) (by kernel_rfl) (by kernel_rfl) (fun _ _ _ h => h) (Or.inl ⟨by kernel_rfl, ?h33⟩) HB8_12.out ?_
                case h33 => (intro WX hWX; go_simp)
                go_simp
                refine wpAnyH_take (i := 34) (v := .bool false) rfl (by kernel_rfl) (by kernel_rfl) (by kernel_rfl) (fun _ _ _ h => h) (Or.inl ⟨by kernel_rfl, ?h34⟩) HB8_12.out ?_
                case h34 => (intro WX hWX; go_simp)
                go_simp
                refine wpAnyH_take (i := 35) (v := .bool false) rfl (by kernel_rfl) (by kernel_rfl) (by kernel_rfl) (fun _ _ _ h => h) (Or.inl ⟨by kernel_rfl, ?h35⟩) HB8_12.out ?_
                case h35 => (intro WX hWX; go_simp)
                go_simp
                refine wpAnyH_take (i := 36) (v := .pointer (some ⟨w.heap.size, 11, none⟩)) rfl (by kernel_rfl) (by kernel_rfl) (by kernel_rfl) (fun _ _ _ h => h) (Or.inl ⟨by kernel_rfl, ?h36⟩) HB8_12.out ?_
                case h36 => (intro WX hWX; go_simp)
                go_simp
                refine wpAnyH_take (i := 37) (v := .bool false) rfl (by kernel_rfl) (by kernel_rfl) (by kernel_rfl) (fun _ _ _ h => h) (Or.inl ⟨by kernel_rfl, ?h37⟩) HB8_12.out ?_
                case h37 => (intro WX hWX; obtain ⟨y0_0, y0_1, y0_2, y0_3, y0_4, y0_5, y0_6, y0_7, y0_8, y0_9, y0_10, y0_11⟩ := cells12 (HX0.out WX (HB0_8.out.trans ((show Below W8.heap.size W8 WX from hWX).mono HB0_8.out.size))); go_simp)
                go_simp
                refine wpAnyH_take (i := 38) (v := .bool false) rfl (by kernel_rfl) (by kernel_rfl) (by kernel_rfl) (fun _ _ _ h => h) (Or.inl ⟨by kernel_rfl, ?h38⟩) HB8_12.out ?_
                case h38 => (intro WX hWX; go_simp)
                go_simp
                refine wpAnyH_done (by kernel_rfl) ?_ _
                go_wp2_with fail
                go_meet
                exact ⟨rfl, HB8_12.out⟩
          case rest =>
            obtain ⟨rfl, hgc⟩ := hcut
            obtain ⟨W9, hWc⟩ : ∃ W, W = wc := ⟨_, rfl⟩
            rw [← hWc] at hgc ⊢
            have HB0_9 : Hid (Below W0.heap.size W0 W9) := Lib.hid (HB0_8.out.trans ((hgc : Below W8.heap.size W8 W9).mono HB0_8.out.size))
            have HB1_9 : Hid (Below W1.heap.size W1 W9) := Lib.hid (HB1_8.out.trans ((hgc : Below W8.heap.size W8 W9).mono HB1_8.out.size))
            have HB2_9 : Hid (Below W2.heap.size W2 W9) := Lib.hid (HB2_8.out.trans ((hgc : Below W8.heap.size W8 W9).mono HB2_8.out.size))
            have HB3_9 : Hid (Below W3.heap.size W3 W9) := Lib.hid (HB3_8.out.trans ((hgc : Below W8.heap.size W8 W9).mono HB3_8.out.size))
            have HB4_9 : Hid (Below W4.heap.size W4 W9) := Lib.hid (HB4_8.out.trans ((hgc : Below W8.heap.size W8 W9).mono HB4_8.out.size))
            have HB5_9 : Hid (Below W5.heap.size W5 W9) := Lib.hid (HB5_8.out.trans ((hgc : Below W8.heap.size W8 W9).mono HB5_8.out.size))
            have HB6_9 : Hid (Below W6.heap.size W6 W9) := Lib.hid (HB6_8.out.trans ((hgc : Below W8.heap.size W8 W9).mono HB6_8.out.size))
            have HB7_9 : Hid (Below W7.heap.size W7 W9) := Lib.hid (HB7_8.out.trans ((hgc : Below W8.heap.size W8 W9).mono HB7_8.out.size))
            have HB8_9 : Hid (Below W8.heap.size W8 W9) := Lib.hid (hgc)
            clear hgc hWc wc
            obtain ⟨p_0, p_1, p_2, p_3, p_4, p_5, p_6, p_7, p_8, p_9, p_10, p_11⟩ := cells12 (HX_p.out W9 HB4_9.out)
            obtain ⟨k_0, k_1, k_2, k_3, k_4, k_5, k_6, k_7, k_8, k_9, k_10, k_11⟩ := cells12 (HX0.out W9 HB0_9.out)
            go_wp2_with fail
            refine Calls.mono (order.take_is i a y d q p f 2 a1 a2 (v + 1) false a3 6 i 0 0 HFA.out ⟨HI.out.2.2, by simp [frame.inR], HF.out.1, rec.in0, rec.in0⟩ HT6.out _) ?_
            rintro e10 W10 ⟨rfl, hb⟩
            have HB0_10 : Hid (Below W0.heap.size W0 W10) := Lib.hid (HB0_9.out.trans ((hb : Below W9.heap.size W9 W10).mono HB0_9.out.size))
            have HB1_10 : Hid (Below W1.heap.size W1 W10) := Lib.hid (HB1_9.out.trans ((hb : Below W9.heap.size W9 W10).mono HB1_9.out.size))
            have HB2_10 : Hid (Below W2.heap.size W2 W10) := Lib.hid (HB2_9.out.trans ((hb : Below W9.heap.size W9 W10).mono HB2_9.out.size))
            have HB3_10 : Hid (Below W3.heap.size W3 W10) := Lib.hid (HB3_9.out.trans ((hb : Below W9.heap.size W9 W10).mono HB3_9.out.size))
            have HB4_10 : Hid (Below W4.heap.size W4 W10) := Lib.hid (HB4_9.out.trans ((hb : Below W9.heap.size W9 W10).mono HB4_9.out.size))
            have HB5_10 : Hid (Below W5.heap.size W5 W10) := Lib.hid (HB5_9.out.trans ((hb : Below W9.heap.size W9 W10).mono HB5_9.out.size))
            have HB6_10 : Hid (Below W6.heap.size W6 W10) := Lib.hid (HB6_9.out.trans ((hb : Below W9.heap.size W9 W10).mono HB6_9.out.size))
            have HB7_10 : Hid (Below W7.heap.size W7 W10) := Lib.hid (HB7_9.out.trans ((hb : Below W9.heap.size W9 W10).mono HB7_9.out.size))
            have HB8_10 : Hid (Below W8.heap.size W8 W10) := Lib.hid (HB8_9.out.trans ((hb : Below W9.heap.size W9 W10).mono HB8_9.out.size))
            have HB9_10 : Hid (Below W9.heap.size W9 W10) := Lib.hid (hb)
            clear hb
            clear p_0 p_1 p_2 p_3 p_4 p_5 p_6 p_7 p_8 p_9 p_10 p_11 k_0 k_1 k_2 k_3 k_4 k_5 k_6 k_7 k_8 k_9 k_10 k_11
            obtain ⟨p_0, p_1, p_2, p_3, p_4, p_5, p_6, p_7, p_8, p_9, p_10, p_11⟩ := cells12 (HX_p.out W10 HB4_10.out)
            obtain ⟨k_0, k_1, k_2, k_3, k_4, k_5, k_6, k_7, k_8, k_9, k_10, k_11⟩ := cells12 (HX0.out W10 HB0_10.out)
            have hlo : w.heap.size < W10.heap.size := by have := HB0_10.out.size; have e := HW0.out; subst e; simp at this; omega
            have hlp : W3.heap.size < W10.heap.size := by have := HB4_10.out.size; have e := HW4.out; subst e; simp at this; omega
            have heqR : ∀ W, (Op.equalIn 10000 23 (.agg #[.int .i64 i, .int .i64 a, .int .i64 y, .int .i64 d, .int .i64 q, .int .i64 p, .int .i64 f, .int .i64 2, .int .i64 0, .int .i64 0, .int .i64 (v + 1), .bool false]) (.agg #[.int .i64 i, .int .i64 a, .int .i64 y, .int .i64 d, .int .i64 q, .int .i64 p, .int .i64 f, .int .i64 2, .int .i64 0, .int .i64 0, .int .i64 (v + 1), .bool false])).run Try.prog W = .ok true W := fun W => eq12_of rfl rfl HFR.out HFR.out (decide_eq_true rfl) W
            by_cases hqf : a1 ≤ f
            · have HT5 : Hid (take ⟨i, a, y, d, q, p, f, 2, a1, a2, (v + 1), false⟩ ⟨a3, 5, i, a1, a2⟩ = (⟨i, a, y, d, q, p, f, 2, a1, a2, (v + 1), false⟩, 8)) := Lib.hid (by rw [change_replaced HCH.out HSQ.out, if_pos hqf])
              go_wp2_with fail
              obtain ⟨W11, HW11⟩ : ∃ W, Hid ((W10.alloc (.cells #[.int .i64 i, .int .i64 a, .int .i64 y, .int .i64 d, .int .i64 q, .int .i64 p, .int .i64 f, .int .i64 2, .int .i64 0, .int .i64 0, .int .i64 (v + 1), .bool false] 23)) = W) := ⟨_, Lib.hid rfl⟩
              have HB0_11 : Hid (Below W0.heap.size W0 W11) := Lib.hid (HB0_10.out.trans ((by rw [← HW11.out]; exact (Below.refl _ _).alloc (Nat.le_refl _) _ : Below W10.heap.size W10 W11).mono HB0_10.out.size))
              have HB1_11 : Hid (Below W1.heap.size W1 W11) := Lib.hid (HB1_10.out.trans ((by rw [← HW11.out]; exact (Below.refl _ _).alloc (Nat.le_refl _) _ : Below W10.heap.size W10 W11).mono HB1_10.out.size))
              have HB2_11 : Hid (Below W2.heap.size W2 W11) := Lib.hid (HB2_10.out.trans ((by rw [← HW11.out]; exact (Below.refl _ _).alloc (Nat.le_refl _) _ : Below W10.heap.size W10 W11).mono HB2_10.out.size))
              have HB3_11 : Hid (Below W3.heap.size W3 W11) := Lib.hid (HB3_10.out.trans ((by rw [← HW11.out]; exact (Below.refl _ _).alloc (Nat.le_refl _) _ : Below W10.heap.size W10 W11).mono HB3_10.out.size))
              have HB4_11 : Hid (Below W4.heap.size W4 W11) := Lib.hid (HB4_10.out.trans ((by rw [← HW11.out]; exact (Below.refl _ _).alloc (Nat.le_refl _) _ : Below W10.heap.size W10 W11).mono HB4_10.out.size))
              have HB5_11 : Hid (Below W5.heap.size W5 W11) := Lib.hid (HB5_10.out.trans ((by rw [← HW11.out]; exact (Below.refl _ _).alloc (Nat.le_refl _) _ : Below W10.heap.size W10 W11).mono HB5_10.out.size))
              have HB6_11 : Hid (Below W6.heap.size W6 W11) := Lib.hid (HB6_10.out.trans ((by rw [← HW11.out]; exact (Below.refl _ _).alloc (Nat.le_refl _) _ : Below W10.heap.size W10 W11).mono HB6_10.out.size))
              have HB7_11 : Hid (Below W7.heap.size W7 W11) := Lib.hid (HB7_10.out.trans ((by rw [← HW11.out]; exact (Below.refl _ _).alloc (Nat.le_refl _) _ : Below W10.heap.size W10 W11).mono HB7_10.out.size))
              have HB8_11 : Hid (Below W8.heap.size W8 W11) := Lib.hid (HB8_10.out.trans ((by rw [← HW11.out]; exact (Below.refl _ _).alloc (Nat.le_refl _) _ : Below W10.heap.size W10 W11).mono HB8_10.out.size))
              have HB9_11 : Hid (Below W9.heap.size W9 W11) := Lib.hid (HB9_10.out.trans ((by rw [← HW11.out]; exact (Below.refl _ _).alloc (Nat.le_refl _) _ : Below W10.heap.size W10 W11).mono HB9_10.out.size))
              have HB10_11 : Hid (Below W10.heap.size W10 W11) := Lib.hid (by rw [← HW11.out]; exact (Below.refl _ _).alloc (Nat.le_refl _) _)
              have HX_q : Hid (∀ W, Below W11.heap.size W11 W → W.heap[W10.heap.size]? = some (.cells #[.int .i64 i, .int .i64 a, .int .i64 y, .int .i64 d, .int .i64 q, .int .i64 p, .int .i64 f, .int .i64 2, .int .i64 0, .int .i64 0, .int .i64 (v + 1), .bool false] 23 (0, 0))) := Lib.hid (fun W hb => (hb.block _ (by rw [← HW11.out]; simp)).trans (by rw [← HW11.out]; exact heap_alloc_new _ _))
              obtain ⟨W12, HW12⟩ : ∃ W, Hid ((W11.alloc (.cells #[.int .i64 i, .int .i64 a, .int .i64 y, .int .i64 d, .int .i64 q, .int .i64 p, .int .i64 f, .int .i64 2, .int .i64 0, .int .i64 0, .int .i64 (v + 1), .bool false] 23)) = W) := ⟨_, Lib.hid rfl⟩
              have HB0_12 : Hid (Below W0.heap.size W0 W12) := Lib.hid (HB0_11.out.trans ((by rw [← HW12.out]; exact (Below.refl _ _).alloc (Nat.le_refl _) _ : Below W11.heap.size W11 W12).mono HB0_11.out.size))
              have HB1_12 : Hid (Below W1.heap.size W1 W12) := Lib.hid (HB1_11.out.trans ((by rw [← HW12.out]; exact (Below.refl _ _).alloc (Nat.le_refl _) _ : Below W11.heap.size W11 W12).mono HB1_11.out.size))
              have HB2_12 : Hid (Below W2.heap.size W2 W12) := Lib.hid (HB2_11.out.trans ((by rw [← HW12.out]; exact (Below.refl _ _).alloc (Nat.le_refl _) _ : Below W11.heap.size W11 W12).mono HB2_11.out.size))
              have HB3_12 : Hid (Below W3.heap.size W3 W12) := Lib.hid (HB3_11.out.trans ((by rw [← HW12.out]; exact (Below.refl _ _).alloc (Nat.le_refl _) _ : Below W11.heap.size W11 W12).mono HB3_11.out.size))
              have HB4_12 : Hid (Below W4.heap.size W4 W12) := Lib.hid (HB4_11.out.trans ((by rw [← HW12.out]; exact (Below.refl _ _).alloc (Nat.le_refl _) _ : Below W11.heap.size W11 W12).mono HB4_11.out.size))
              have HB5_12 : Hid (Below W5.heap.size W5 W12) := Lib.hid (HB5_11.out.trans ((by rw [← HW12.out]; exact (Below.refl _ _).alloc (Nat.le_refl _) _ : Below W11.heap.size W11 W12).mono HB5_11.out.size))
              have HB6_12 : Hid (Below W6.heap.size W6 W12) := Lib.hid (HB6_11.out.trans ((by rw [← HW12.out]; exact (Below.refl _ _).alloc (Nat.le_refl _) _ : Below W11.heap.size W11 W12).mono HB6_11.out.size))
              have HB7_12 : Hid (Below W7.heap.size W7 W12) := Lib.hid (HB7_11.out.trans ((by rw [← HW12.out]; exact (Below.refl _ _).alloc (Nat.le_refl _) _ : Below W11.heap.size W11 W12).mono HB7_11.out.size))
              have HB8_12 : Hid (Below W8.heap.size W8 W12) := Lib.hid (HB8_11.out.trans ((by rw [← HW12.out]; exact (Below.refl _ _).alloc (Nat.le_refl _) _ : Below W11.heap.size W11 W12).mono HB8_11.out.size))
              have HB9_12 : Hid (Below W9.heap.size W9 W12) := Lib.hid (HB9_11.out.trans ((by rw [← HW12.out]; exact (Below.refl _ _).alloc (Nat.le_refl _) _ : Below W11.heap.size W11 W12).mono HB9_11.out.size))
              have HB10_12 : Hid (Below W10.heap.size W10 W12) := Lib.hid (HB10_11.out.trans ((by rw [← HW12.out]; exact (Below.refl _ _).alloc (Nat.le_refl _) _ : Below W11.heap.size W11 W12).mono HB10_11.out.size))
              have HB11_12 : Hid (Below W11.heap.size W11 W12) := Lib.hid (by rw [← HW12.out]; exact (Below.refl _ _).alloc (Nat.le_refl _) _)
              have HX_r : Hid (∀ W, Below W12.heap.size W12 W → W.heap[W11.heap.size]? = some (.cells #[.int .i64 i, .int .i64 a, .int .i64 y, .int .i64 d, .int .i64 q, .int .i64 p, .int .i64 f, .int .i64 2, .int .i64 0, .int .i64 0, .int .i64 (v + 1), .bool false] 23 (0, 0))) := Lib.hid (fun W hb => (hb.block _ (by rw [← HW12.out]; simp)).trans (by rw [← HW12.out]; exact heap_alloc_new _ _))
              refine Calls.mono (order.take_is i a y d q p f 2 a1 a2 (v + 1) false a3 5 i a1 a2 HFA.out ⟨HI.out.2.2, by simp [frame.inR], HF.out.1, HI.out.1, HI.out.2.1⟩ HT5.out _) ?_
              rintro e13 W13 ⟨rfl, hb⟩
              rw [HW11.out, HW12.out] at hb
              have HB0_13 : Hid (Below W0.heap.size W0 W13) := Lib.hid (HB0_12.out.trans ((hb : Below W12.heap.size W12 W13).mono HB0_12.out.size))
              have HB1_13 : Hid (Below W1.heap.size W1 W13) := Lib.hid (HB1_12.out.trans ((hb : Below W12.heap.size W12 W13).mono HB1_12.out.size))
              have HB2_13 : Hid (Below W2.heap.size W2 W13) := Lib.hid (HB2_12.out.trans ((hb : Below W12.heap.size W12 W13).mono HB2_12.out.size))
              have HB3_13 : Hid (Below W3.heap.size W3 W13) := Lib.hid (HB3_12.out.trans ((hb : Below W12.heap.size W12 W13).mono HB3_12.out.size))
              have HB4_13 : Hid (Below W4.heap.size W4 W13) := Lib.hid (HB4_12.out.trans ((hb : Below W12.heap.size W12 W13).mono HB4_12.out.size))
              have HB5_13 : Hid (Below W5.heap.size W5 W13) := Lib.hid (HB5_12.out.trans ((hb : Below W12.heap.size W12 W13).mono HB5_12.out.size))
              have HB6_13 : Hid (Below W6.heap.size W6 W13) := Lib.hid (HB6_12.out.trans ((hb : Below W12.heap.size W12 W13).mono HB6_12.out.size))
              have HB7_13 : Hid (Below W7.heap.size W7 W13) := Lib.hid (HB7_12.out.trans ((hb : Below W12.heap.size W12 W13).mono HB7_12.out.size))
              have HB8_13 : Hid (Below W8.heap.size W8 W13) := Lib.hid (HB8_12.out.trans ((hb : Below W12.heap.size W12 W13).mono HB8_12.out.size))
              have HB9_13 : Hid (Below W9.heap.size W9 W13) := Lib.hid (HB9_12.out.trans ((hb : Below W12.heap.size W12 W13).mono HB9_12.out.size))
              have HB10_13 : Hid (Below W10.heap.size W10 W13) := Lib.hid (HB10_12.out.trans ((hb : Below W12.heap.size W12 W13).mono HB10_12.out.size))
              have HB11_13 : Hid (Below W11.heap.size W11 W13) := Lib.hid (HB11_12.out.trans ((hb : Below W12.heap.size W12 W13).mono HB11_12.out.size))
              have HB12_13 : Hid (Below W12.heap.size W12 W13) := Lib.hid (hb)
              clear hb
              clear p_0 p_1 p_2 p_3 p_4 p_5 p_6 p_7 p_8 p_9 p_10 p_11 k_0 k_1 k_2 k_3 k_4 k_5 k_6 k_7 k_8 k_9 k_10 k_11
              obtain ⟨W14, HW14⟩ : ∃ W, Hid ((W13.alloc (.cells #[.int .i64 i, .int .i64 a, .int .i64 y, .int .i64 d, .int .i64 q, .int .i64 p, .int .i64 f, .int .i64 2, .int .i64 a1, .int .i64 a2, .int .i64 (v + 1), .bool false] 23)) = W) := ⟨_, Lib.hid rfl⟩
              have HB0_14 : Hid (Below W0.heap.size W0 W14) := Lib.hid (HB0_13.out.trans ((by rw [← HW14.out]; exact (Below.refl _ _).alloc (Nat.le_refl _) _ : Below W13.heap.size W13 W14).mono HB0_13.out.size))
              have HB1_14 : Hid (Below W1.heap.size W1 W14) := Lib.hid (HB1_13.out.trans ((by rw [← HW14.out]; exact (Below.refl _ _).alloc (Nat.le_refl _) _ : Below W13.heap.size W13 W14).mono HB1_13.out.size))
              have HB2_14 : Hid (Below W2.heap.size W2 W14) := Lib.hid (HB2_13.out.trans ((by rw [← HW14.out]; exact (Below.refl _ _).alloc (Nat.le_refl _) _ : Below W13.heap.size W13 W14).mono HB2_13.out.size))
              have HB3_14 : Hid (Below W3.heap.size W3 W14) := Lib.hid (HB3_13.out.trans ((by rw [← HW14.out]; exact (Below.refl _ _).alloc (Nat.le_refl _) _ : Below W13.heap.size W13 W14).mono HB3_13.out.size))
              have HB4_14 : Hid (Below W4.heap.size W4 W14) := Lib.hid (HB4_13.out.trans ((by rw [← HW14.out]; exact (Below.refl _ _).alloc (Nat.le_refl _) _ : Below W13.heap.size W13 W14).mono HB4_13.out.size))
              have HB5_14 : Hid (Below W5.heap.size W5 W14) := Lib.hid (HB5_13.out.trans ((by rw [← HW14.out]; exact (Below.refl _ _).alloc (Nat.le_refl _) _ : Below W13.heap.size W13 W14).mono HB5_13.out.size))
              have HB6_14 : Hid (Below W6.heap.size W6 W14) := Lib.hid (HB6_13.out.trans ((by rw [← HW14.out]; exact (Below.refl _ _).alloc (Nat.le_refl _) _ : Below W13.heap.size W13 W14).mono HB6_13.out.size))
              have HB7_14 : Hid (Below W7.heap.size W7 W14) := Lib.hid (HB7_13.out.trans ((by rw [← HW14.out]; exact (Below.refl _ _).alloc (Nat.le_refl _) _ : Below W13.heap.size W13 W14).mono HB7_13.out.size))
              have HB8_14 : Hid (Below W8.heap.size W8 W14) := Lib.hid (HB8_13.out.trans ((by rw [← HW14.out]; exact (Below.refl _ _).alloc (Nat.le_refl _) _ : Below W13.heap.size W13 W14).mono HB8_13.out.size))
              have HB9_14 : Hid (Below W9.heap.size W9 W14) := Lib.hid (HB9_13.out.trans ((by rw [← HW14.out]; exact (Below.refl _ _).alloc (Nat.le_refl _) _ : Below W13.heap.size W13 W14).mono HB9_13.out.size))
              have HB10_14 : Hid (Below W10.heap.size W10 W14) := Lib.hid (HB10_13.out.trans ((by rw [← HW14.out]; exact (Below.refl _ _).alloc (Nat.le_refl _) _ : Below W13.heap.size W13 W14).mono HB10_13.out.size))
              have HB11_14 : Hid (Below W11.heap.size W11 W14) := Lib.hid (HB11_13.out.trans ((by rw [← HW14.out]; exact (Below.refl _ _).alloc (Nat.le_refl _) _ : Below W13.heap.size W13 W14).mono HB11_13.out.size))
              have HB12_14 : Hid (Below W12.heap.size W12 W14) := Lib.hid (HB12_13.out.trans ((by rw [← HW14.out]; exact (Below.refl _ _).alloc (Nat.le_refl _) _ : Below W13.heap.size W13 W14).mono HB12_13.out.size))
              have HB13_14 : Hid (Below W13.heap.size W13 W14) := Lib.hid (by rw [← HW14.out]; exact (Below.refl _ _).alloc (Nat.le_refl _) _)
              have HX_t : Hid (∀ W, Below W14.heap.size W14 W → W.heap[W13.heap.size]? = some (.cells #[.int .i64 i, .int .i64 a, .int .i64 y, .int .i64 d, .int .i64 q, .int .i64 p, .int .i64 f, .int .i64 2, .int .i64 a1, .int .i64 a2, .int .i64 (v + 1), .bool false] 23 (0, 0))) := Lib.hid (fun W hb => (hb.block _ (by rw [← HW14.out]; simp)).trans (by rw [← HW14.out]; exact heap_alloc_new _ _))
              obtain ⟨k_0, k_1, k_2, k_3, k_4, k_5, k_6, k_7, k_8, k_9, k_10, k_11⟩ := cells12 (HX0.out W14 HB0_14.out)
              rw [← HW14.out] at k_0 k_1 k_2 k_3 k_4 k_5 k_6 k_7 k_8 k_9 k_10 k_11
              go_wp2_with fail
              go_ret
              exact ⟨rfl, by rw [HW14.out]; exact HBW.out.trans (HB0_14.out.mono HBW.out.size)⟩
            · have hqf' : f < a1 := by omega
              have HT5 : Hid (take ⟨i, a, y, d, q, p, f, 2, a1, a2, (v + 1), false⟩ ⟨a3, 5, i, a1, a2⟩ = (⟨i, a, y, d, a1, a2, f, 2, 0, 0, (v + 1), false⟩, 0)) := Lib.hid (by rw [change_replaced HCH.out HSQ.out, if_neg hqf])
              have HFS : Hid ((⟨i, a, y, d, a1, a2, f, 2, 0, 0, (v + 1), false⟩ : Or).fine) := Lib.hid (take_fine HFA.out HT5.out)
              have HOS : Hid (open_ ⟨i, a, y, d, a1, a2, f, 2, 0, 0, (v + 1), false⟩ = a1 - f) := Lib.hid (replaced_open HCH.out HSQ.out hqf' HT5.out).2.2.2.1
              have hwr : IntKind.i64.wrap (a1 - f) = a1 - f := IntWalk.i64_in _ (by have h1 := HI.out.1; have h2 := HF.out.2.2.2.2.2.2.1; have h3 := (change_ok HCH.out).1; unfold Rightly at h3; simp only [frame.inR] at h1 h2 h3; omega)
              go_wp2_with fail
              obtain ⟨W11, HW11⟩ : ∃ W, Hid ((W10.alloc (.cells #[.int .i64 i, .int .i64 a, .int .i64 y, .int .i64 d, .int .i64 q, .int .i64 p, .int .i64 f, .int .i64 2, .int .i64 0, .int .i64 0, .int .i64 (v + 1), .bool false] 23)) = W) := ⟨_, Lib.hid rfl⟩
              have HB0_11 : Hid (Below W0.heap.size W0 W11) := Lib.hid (HB0_10.out.trans ((by rw [← HW11.out]; exact (Below.refl _ _).alloc (Nat.le_refl _) _ : Below W10.heap.size W10 W11).mono HB0_10.out.size))
              have HB1_11 : Hid (Below W1.heap.size W1 W11) := Lib.hid (HB1_10.out.trans ((by rw [← HW11.out]; exact (Below.refl _ _).alloc (Nat.le_refl _) _ : Below W10.heap.size W10 W11).mono HB1_10.out.size))
              have HB2_11 : Hid (Below W2.heap.size W2 W11) := Lib.hid (HB2_10.out.trans ((by rw [← HW11.out]; exact (Below.refl _ _).alloc (Nat.le_refl _) _ : Below W10.heap.size W10 W11).mono HB2_10.out.size))
              have HB3_11 : Hid (Below W3.heap.size W3 W11) := Lib.hid (HB3_10.out.trans ((by rw [← HW11.out]; exact (Below.refl _ _).alloc (Nat.le_refl _) _ : Below W10.heap.size W10 W11).mono HB3_10.out.size))
              have HB4_11 : Hid (Below W4.heap.size W4 W11) := Lib.hid (HB4_10.out.trans ((by rw [← HW11.out]; exact (Below.refl _ _).alloc (Nat.le_refl _) _ : Below W10.heap.size W10 W11).mono HB4_10.out.size))
              have HB5_11 : Hid (Below W5.heap.size W5 W11) := Lib.hid (HB5_10.out.trans ((by rw [← HW11.out]; exact (Below.refl _ _).alloc (Nat.le_refl _) _ : Below W10.heap.size W10 W11).mono HB5_10.out.size))
              have HB6_11 : Hid (Below W6.heap.size W6 W11) := Lib.hid (HB6_10.out.trans ((by rw [← HW11.out]; exact (Below.refl _ _).alloc (Nat.le_refl _) _ : Below W10.heap.size W10 W11).mono HB6_10.out.size))
              have HB7_11 : Hid (Below W7.heap.size W7 W11) := Lib.hid (HB7_10.out.trans ((by rw [← HW11.out]; exact (Below.refl _ _).alloc (Nat.le_refl _) _ : Below W10.heap.size W10 W11).mono HB7_10.out.size))
              have HB8_11 : Hid (Below W8.heap.size W8 W11) := Lib.hid (HB8_10.out.trans ((by rw [← HW11.out]; exact (Below.refl _ _).alloc (Nat.le_refl _) _ : Below W10.heap.size W10 W11).mono HB8_10.out.size))
              have HB9_11 : Hid (Below W9.heap.size W9 W11) := Lib.hid (HB9_10.out.trans ((by rw [← HW11.out]; exact (Below.refl _ _).alloc (Nat.le_refl _) _ : Below W10.heap.size W10 W11).mono HB9_10.out.size))
              have HB10_11 : Hid (Below W10.heap.size W10 W11) := Lib.hid (by rw [← HW11.out]; exact (Below.refl _ _).alloc (Nat.le_refl _) _)
              have HX_q : Hid (∀ W, Below W11.heap.size W11 W → W.heap[W10.heap.size]? = some (.cells #[.int .i64 i, .int .i64 a, .int .i64 y, .int .i64 d, .int .i64 q, .int .i64 p, .int .i64 f, .int .i64 2, .int .i64 0, .int .i64 0, .int .i64 (v + 1), .bool false] 23 (0, 0))) := Lib.hid (fun W hb => (hb.block _ (by rw [← HW11.out]; simp)).trans (by rw [← HW11.out]; exact heap_alloc_new _ _))
              obtain ⟨W12, HW12⟩ : ∃ W, Hid ((W11.alloc (.cells #[.int .i64 i, .int .i64 a, .int .i64 y, .int .i64 d, .int .i64 q, .int .i64 p, .int .i64 f, .int .i64 2, .int .i64 0, .int .i64 0, .int .i64 (v + 1), .bool false] 23)) = W) := ⟨_, Lib.hid rfl⟩
              have HB0_12 : Hid (Below W0.heap.size W0 W12) := Lib.hid (HB0_11.out.trans ((by rw [← HW12.out]; exact (Below.refl _ _).alloc (Nat.le_refl _) _ : Below W11.heap.size W11 W12).mono HB0_11.out.size))
              have HB1_12 : Hid (Below W1.heap.size W1 W12) := Lib.hid (HB1_11.out.trans ((by rw [← HW12.out]; exact (Below.refl _ _).alloc (Nat.le_refl _) _ : Below W11.heap.size W11 W12).mono HB1_11.out.size))
              have HB2_12 : Hid (Below W2.heap.size W2 W12) := Lib.hid (HB2_11.out.trans ((by rw [← HW12.out]; exact (Below.refl _ _).alloc (Nat.le_refl _) _ : Below W11.heap.size W11 W12).mono HB2_11.out.size))
              have HB3_12 : Hid (Below W3.heap.size W3 W12) := Lib.hid (HB3_11.out.trans ((by rw [← HW12.out]; exact (Below.refl _ _).alloc (Nat.le_refl _) _ : Below W11.heap.size W11 W12).mono HB3_11.out.size))
              have HB4_12 : Hid (Below W4.heap.size W4 W12) := Lib.hid (HB4_11.out.trans ((by rw [← HW12.out]; exact (Below.refl _ _).alloc (Nat.le_refl _) _ : Below W11.heap.size W11 W12).mono HB4_11.out.size))
              have HB5_12 : Hid (Below W5.heap.size W5 W12) := Lib.hid (HB5_11.out.trans ((by rw [← HW12.out]; exact (Below.refl _ _).alloc (Nat.le_refl _) _ : Below W11.heap.size W11 W12).mono HB5_11.out.size))
              have HB6_12 : Hid (Below W6.heap.size W6 W12) := Lib.hid (HB6_11.out.trans ((by rw [← HW12.out]; exact (Below.refl _ _).alloc (Nat.le_refl _) _ : Below W11.heap.size W11 W12).mono HB6_11.out.size))
              have HB7_12 : Hid (Below W7.heap.size W7 W12) := Lib.hid (HB7_11.out.trans ((by rw [← HW12.out]; exact (Below.refl _ _).alloc (Nat.le_refl _) _ : Below W11.heap.size W11 W12).mono HB7_11.out.size))
              have HB8_12 : Hid (Below W8.heap.size W8 W12) := Lib.hid (HB8_11.out.trans ((by rw [← HW12.out]; exact (Below.refl _ _).alloc (Nat.le_refl _) _ : Below W11.heap.size W11 W12).mono HB8_11.out.size))
              have HB9_12 : Hid (Below W9.heap.size W9 W12) := Lib.hid (HB9_11.out.trans ((by rw [← HW12.out]; exact (Below.refl _ _).alloc (Nat.le_refl _) _ : Below W11.heap.size W11 W12).mono HB9_11.out.size))
              have HB10_12 : Hid (Below W10.heap.size W10 W12) := Lib.hid (HB10_11.out.trans ((by rw [← HW12.out]; exact (Below.refl _ _).alloc (Nat.le_refl _) _ : Below W11.heap.size W11 W12).mono HB10_11.out.size))
              have HB11_12 : Hid (Below W11.heap.size W11 W12) := Lib.hid (by rw [← HW12.out]; exact (Below.refl _ _).alloc (Nat.le_refl _) _)
              have HX_r : Hid (∀ W, Below W12.heap.size W12 W → W.heap[W11.heap.size]? = some (.cells #[.int .i64 i, .int .i64 a, .int .i64 y, .int .i64 d, .int .i64 q, .int .i64 p, .int .i64 f, .int .i64 2, .int .i64 0, .int .i64 0, .int .i64 (v + 1), .bool false] 23 (0, 0))) := Lib.hid (fun W hb => (hb.block _ (by rw [← HW12.out]; simp)).trans (by rw [← HW12.out]; exact heap_alloc_new _ _))
              refine Calls.mono (order.take_is i a y d q p f 2 a1 a2 (v + 1) false a3 5 i a1 a2 HFA.out ⟨HI.out.2.2, by simp [frame.inR], HF.out.1, HI.out.1, HI.out.2.1⟩ HT5.out _) ?_
              rintro e13 W13 ⟨rfl, hb⟩
              rw [HW11.out, HW12.out] at hb
              have HB0_13 : Hid (Below W0.heap.size W0 W13) := Lib.hid (HB0_12.out.trans ((hb : Below W12.heap.size W12 W13).mono HB0_12.out.size))
              have HB1_13 : Hid (Below W1.heap.size W1 W13) := Lib.hid (HB1_12.out.trans ((hb : Below W12.heap.size W12 W13).mono HB1_12.out.size))
              have HB2_13 : Hid (Below W2.heap.size W2 W13) := Lib.hid (HB2_12.out.trans ((hb : Below W12.heap.size W12 W13).mono HB2_12.out.size))
              have HB3_13 : Hid (Below W3.heap.size W3 W13) := Lib.hid (HB3_12.out.trans ((hb : Below W12.heap.size W12 W13).mono HB3_12.out.size))
              have HB4_13 : Hid (Below W4.heap.size W4 W13) := Lib.hid (HB4_12.out.trans ((hb : Below W12.heap.size W12 W13).mono HB4_12.out.size))
              have HB5_13 : Hid (Below W5.heap.size W5 W13) := Lib.hid (HB5_12.out.trans ((hb : Below W12.heap.size W12 W13).mono HB5_12.out.size))
              have HB6_13 : Hid (Below W6.heap.size W6 W13) := Lib.hid (HB6_12.out.trans ((hb : Below W12.heap.size W12 W13).mono HB6_12.out.size))
              have HB7_13 : Hid (Below W7.heap.size W7 W13) := Lib.hid (HB7_12.out.trans ((hb : Below W12.heap.size W12 W13).mono HB7_12.out.size))
              have HB8_13 : Hid (Below W8.heap.size W8 W13) := Lib.hid (HB8_12.out.trans ((hb : Below W12.heap.size W12 W13).mono HB8_12.out.size))
              have HB9_13 : Hid (Below W9.heap.size W9 W13) := Lib.hid (HB9_12.out.trans ((hb : Below W12.heap.size W12 W13).mono HB9_12.out.size))
              have HB10_13 : Hid (Below W10.heap.size W10 W13) := Lib.hid (HB10_12.out.trans ((hb : Below W12.heap.size W12 W13).mono HB10_12.out.size))
              have HB11_13 : Hid (Below W11.heap.size W11 W13) := Lib.hid (HB11_12.out.trans ((hb : Below W12.heap.size W12 W13).mono HB11_12.out.size))
              have HB12_13 : Hid (Below W12.heap.size W12 W13) := Lib.hid (hb)
              clear hb
              clear p_0 p_1 p_2 p_3 p_4 p_5 p_6 p_7 p_8 p_9 p_10 p_11 k_0 k_1 k_2 k_3 k_4 k_5 k_6 k_7 k_8 k_9 k_10 k_11
              obtain ⟨W14, HW14⟩ : ∃ W, Hid ((W13.alloc (.cells #[.int .i64 i, .int .i64 a, .int .i64 y, .int .i64 d, .int .i64 a1, .int .i64 a2, .int .i64 f, .int .i64 2, .int .i64 0, .int .i64 0, .int .i64 (v + 1), .bool false] 23)) = W) := ⟨_, Lib.hid rfl⟩
              have HB0_14 : Hid (Below W0.heap.size W0 W14) := Lib.hid (HB0_13.out.trans ((by rw [← HW14.out]; exact (Below.refl _ _).alloc (Nat.le_refl _) _ : Below W13.heap.size W13 W14).mono HB0_13.out.size))
              have HB1_14 : Hid (Below W1.heap.size W1 W14) := Lib.hid (HB1_13.out.trans ((by rw [← HW14.out]; exact (Below.refl _ _).alloc (Nat.le_refl _) _ : Below W13.heap.size W13 W14).mono HB1_13.out.size))
              have HB2_14 : Hid (Below W2.heap.size W2 W14) := Lib.hid (HB2_13.out.trans ((by rw [← HW14.out]; exact (Below.refl _ _).alloc (Nat.le_refl _) _ : Below W13.heap.size W13 W14).mono HB2_13.out.size))
              have HB3_14 : Hid (Below W3.heap.size W3 W14) := Lib.hid (HB3_13.out.trans ((by rw [← HW14.out]; exact (Below.refl _ _).alloc (Nat.le_refl _) _ : Below W13.heap.size W13 W14).mono HB3_13.out.size))
              have HB4_14 : Hid (Below W4.heap.size W4 W14) := Lib.hid (HB4_13.out.trans ((by rw [← HW14.out]; exact (Below.refl _ _).alloc (Nat.le_refl _) _ : Below W13.heap.size W13 W14).mono HB4_13.out.size))
              have HB5_14 : Hid (Below W5.heap.size W5 W14) := Lib.hid (HB5_13.out.trans ((by rw [← HW14.out]; exact (Below.refl _ _).alloc (Nat.le_refl _) _ : Below W13.heap.size W13 W14).mono HB5_13.out.size))
              have HB6_14 : Hid (Below W6.heap.size W6 W14) := Lib.hid (HB6_13.out.trans ((by rw [← HW14.out]; exact (Below.refl _ _).alloc (Nat.le_refl _) _ : Below W13.heap.size W13 W14).mono HB6_13.out.size))
              have HB7_14 : Hid (Below W7.heap.size W7 W14) := Lib.hid (HB7_13.out.trans ((by rw [← HW14.out]; exact (Below.refl _ _).alloc (Nat.le_refl _) _ : Below W13.heap.size W13 W14).mono HB7_13.out.size))
              have HB8_14 : Hid (Below W8.heap.size W8 W14) := Lib.hid (HB8_13.out.trans ((by rw [← HW14.out]; exact (Below.refl _ _).alloc (Nat.le_refl _) _ : Below W13.heap.size W13 W14).mono HB8_13.out.size))
              have HB9_14 : Hid (Below W9.heap.size W9 W14) := Lib.hid (HB9_13.out.trans ((by rw [← HW14.out]; exact (Below.refl _ _).alloc (Nat.le_refl _) _ : Below W13.heap.size W13 W14).mono HB9_13.out.size))
              have HB10_14 : Hid (Below W10.heap.size W10 W14) := Lib.hid (HB10_13.out.trans ((by rw [← HW14.out]; exact (Below.refl _ _).alloc (Nat.le_refl _) _ : Below W13.heap.size W13 W14).mono HB10_13.out.size))
              have HB11_14 : Hid (Below W11.heap.size W11 W14) := Lib.hid (HB11_13.out.trans ((by rw [← HW14.out]; exact (Below.refl _ _).alloc (Nat.le_refl _) _ : Below W13.heap.size W13 W14).mono HB11_13.out.size))
              have HB12_14 : Hid (Below W12.heap.size W12 W14) := Lib.hid (HB12_13.out.trans ((by rw [← HW14.out]; exact (Below.refl _ _).alloc (Nat.le_refl _) _ : Below W13.heap.size W13 W14).mono HB12_13.out.size))
              have HB13_14 : Hid (Below W13.heap.size W13 W14) := Lib.hid (by rw [← HW14.out]; exact (Below.refl _ _).alloc (Nat.le_refl _) _)
              have HX_t : Hid (∀ W, Below W14.heap.size W14 W → W.heap[W13.heap.size]? = some (.cells #[.int .i64 i, .int .i64 a, .int .i64 y, .int .i64 d, .int .i64 a1, .int .i64 a2, .int .i64 f, .int .i64 2, .int .i64 0, .int .i64 0, .int .i64 (v + 1), .bool false] 23 (0, 0))) := Lib.hid (fun W hb => (hb.block _ (by rw [← HW14.out]; simp)).trans (by rw [← HW14.out]; exact heap_alloc_new _ _))
              obtain ⟨k_0, k_1, k_2, k_3, k_4, k_5, k_6, k_7, k_8, k_9, k_10, k_11⟩ := cells12 (HX0.out W14 HB0_14.out)
              rw [← HW14.out] at k_0 k_1 k_2 k_3 k_4 k_5 k_6 k_7 k_8 k_9 k_10 k_11
              go_upto_region 21 with fail
              rw [HW14.out]
              refine wp_region_held_drew (S := fun W => Below W14.heap.size W14 W) (by kernel_rfl) (Below.refl _ _).drew (fun _ => ?_)
              obtain ⟨W15, hW15⟩ : ∃ x, x = W14.drew := ⟨_, rfl⟩
              rw [← hW15]
              have HB0_15 : Hid (Below W0.heap.size W0 W15) := Lib.hid (HB0_14.out.trans ((by rw [hW15]; exact (Below.refl _ _).drew : Below W14.heap.size W14 W15).mono HB0_14.out.size))
              have HB1_15 : Hid (Below W1.heap.size W1 W15) := Lib.hid (HB1_14.out.trans ((by rw [hW15]; exact (Below.refl _ _).drew : Below W14.heap.size W14 W15).mono HB1_14.out.size))
              have HB2_15 : Hid (Below W2.heap.size W2 W15) := Lib.hid (HB2_14.out.trans ((by rw [hW15]; exact (Below.refl _ _).drew : Below W14.heap.size W14 W15).mono HB2_14.out.size))
              have HB3_15 : Hid (Below W3.heap.size W3 W15) := Lib.hid (HB3_14.out.trans ((by rw [hW15]; exact (Below.refl _ _).drew : Below W14.heap.size W14 W15).mono HB3_14.out.size))
              have HB4_15 : Hid (Below W4.heap.size W4 W15) := Lib.hid (HB4_14.out.trans ((by rw [hW15]; exact (Below.refl _ _).drew : Below W14.heap.size W14 W15).mono HB4_14.out.size))
              have HB5_15 : Hid (Below W5.heap.size W5 W15) := Lib.hid (HB5_14.out.trans ((by rw [hW15]; exact (Below.refl _ _).drew : Below W14.heap.size W14 W15).mono HB5_14.out.size))
              have HB6_15 : Hid (Below W6.heap.size W6 W15) := Lib.hid (HB6_14.out.trans ((by rw [hW15]; exact (Below.refl _ _).drew : Below W14.heap.size W14 W15).mono HB6_14.out.size))
              have HB7_15 : Hid (Below W7.heap.size W7 W15) := Lib.hid (HB7_14.out.trans ((by rw [hW15]; exact (Below.refl _ _).drew : Below W14.heap.size W14 W15).mono HB7_14.out.size))
              have HB8_15 : Hid (Below W8.heap.size W8 W15) := Lib.hid (HB8_14.out.trans ((by rw [hW15]; exact (Below.refl _ _).drew : Below W14.heap.size W14 W15).mono HB8_14.out.size))
              have HB9_15 : Hid (Below W9.heap.size W9 W15) := Lib.hid (HB9_14.out.trans ((by rw [hW15]; exact (Below.refl _ _).drew : Below W14.heap.size W14 W15).mono HB9_14.out.size))
              have HB10_15 : Hid (Below W10.heap.size W10 W15) := Lib.hid (HB10_14.out.trans ((by rw [hW15]; exact (Below.refl _ _).drew : Below W14.heap.size W14 W15).mono HB10_14.out.size))
              have HB11_15 : Hid (Below W11.heap.size W11 W15) := Lib.hid (HB11_14.out.trans ((by rw [hW15]; exact (Below.refl _ _).drew : Below W14.heap.size W14 W15).mono HB11_14.out.size))
              have HB12_15 : Hid (Below W12.heap.size W12 W15) := Lib.hid (HB12_14.out.trans ((by rw [hW15]; exact (Below.refl _ _).drew : Below W14.heap.size W14 W15).mono HB12_14.out.size))
              have HB13_15 : Hid (Below W13.heap.size W13 W15) := Lib.hid (HB13_14.out.trans ((by rw [hW15]; exact (Below.refl _ _).drew : Below W14.heap.size W14 W15).mono HB13_14.out.size))
              have HB14_15 : Hid (Below W14.heap.size W14 W15) := Lib.hid (by rw [hW15]; exact (Below.refl _ _).drew)
              clear hW15
              refine wpAnyH_take (i := 0) (v := .int .i64 0) rfl (by kernel_rfl) (by kernel_rfl) (by kernel_rfl) (fun _ _ _ h => h) (Or.inl ⟨by kernel_rfl, ?h0⟩) HB14_15.out ?_
              case h0 => (intro WX hWX; go_simp)
              go_simp
              refine wpAnyH_take (i := 1) (v := .bool true) rfl (by kernel_rfl) (by kernel_rfl) (by kernel_rfl) (fun _ _ _ h => h) (Or.inl ⟨by kernel_rfl, ?h1⟩) HB14_15.out ?_
              case h1 => (intro WX hWX; go_simp)
              go_simp
              refine wpAnyH_take (i := 2) (v := .bool true) rfl (by kernel_rfl) (by kernel_rfl) (by kernel_rfl) (fun _ _ _ h => h) (Or.inl ⟨by kernel_rfl, ?h2⟩) HB14_15.out ?_
              case h2 => (intro WX hWX; go_simp)
              go_simp
              refine wpAnyH_take (i := 3) (v := .pointer (some ⟨W13.heap.size, 4, none⟩)) rfl (by kernel_rfl) (by kernel_rfl) (by kernel_rfl) (fun _ _ _ h => h) (Or.inl ⟨by kernel_rfl, ?h3⟩) HB14_15.out ?_
              case h3 => (intro WX hWX; go_simp)
              go_simp
              refine wpAnyH_take (i := 4) (v := .int .i64 a1) rfl (by kernel_rfl) (by kernel_rfl) (by kernel_rfl) (fun _ _ _ h => h) (Or.inl ⟨by kernel_rfl, ?h4⟩) HB14_15.out ?_
              case h4 => (intro WX hWX; obtain ⟨y0_0, y0_1, y0_2, y0_3, y0_4, y0_5, y0_6, y0_7, y0_8, y0_9, y0_10, y0_11⟩ := cells12 (HX_t.out WX (show Below W14.heap.size W14 WX from hWX)); go_simp)
              go_simp
              refine wpAnyH_take (i := 5) (v := .int .i64 a1) rfl (by kernel_rfl) (by kernel_rfl) (by kernel_rfl) (fun _ _ _ h => h) (Or.inl ⟨by kernel_rfl, ?h5⟩) HB14_15.out ?_
              case h5 => (intro WX hWX; go_simp)
              go_simp
              refine wpAnyH_take (i := 6) (v := .bool true) rfl (by kernel_rfl) (by kernel_rfl) (by kernel_rfl) (fun _ _ _ h => h) (Or.inl ⟨by kernel_rfl, ?h6⟩) HB14_15.out ?_
              case h6 => (intro WX hWX; go_simp)
              go_simp
              refine wpAnyH_take (i := 7) (v := .bool true) rfl (by kernel_rfl) (by kernel_rfl) (by kernel_rfl) (fun _ _ _ h => h) (Or.inl ⟨by kernel_rfl, ?h7⟩) HB14_15.out ?_
              case h7 => (intro WX hWX; go_simp)
              go_simp
              refine wpAnyH_take (i := 8) (v := .bool true) rfl (by kernel_rfl) (by kernel_rfl) (by kernel_rfl) (fun _ _ _ h => h) (Or.inl ⟨by kernel_rfl, ?h8⟩) HB14_15.out ?_
              case h8 => (intro WX hWX; go_simp)
              go_simp
              refine wpAnyH_take (i := 9) (v := .pointer (some ⟨W13.heap.size, 5, none⟩)) rfl (by kernel_rfl) (by kernel_rfl) (by kernel_rfl) (fun _ _ _ h => h) (Or.inl ⟨by kernel_rfl, ?h9⟩) HB14_15.out ?_
              case h9 => (intro WX hWX; go_simp)
              go_simp
              refine wpAnyH_take (i := 10) (v := .int .i64 a2) rfl (by kernel_rfl) (by kernel_rfl) (by kernel_rfl) (fun _ _ _ h => h) (Or.inl ⟨by kernel_rfl, ?h10⟩) HB14_15.out ?_
              case h10 => (intro WX hWX; obtain ⟨y0_0, y0_1, y0_2, y0_3, y0_4, y0_5, y0_6, y0_7, y0_8, y0_9, y0_10, y0_11⟩ := cells12 (HX_t.out WX (show Below W14.heap.size W14 WX from hWX)); go_simp)
              go_simp
              refine wpAnyH_take (i := 11) (v := .int .i64 a2) rfl (by kernel_rfl) (by kernel_rfl) (by kernel_rfl) (fun _ _ _ h => h) (Or.inl ⟨by kernel_rfl, ?h11⟩) HB14_15.out ?_
              case h11 => (intro WX hWX; go_simp)
              go_simp
              refine wpAnyH_take (i := 12) (v := .bool true) rfl (by kernel_rfl) (by kernel_rfl) (by kernel_rfl) (fun _ _ _ h => h) (Or.inl ⟨by kernel_rfl, ?h12⟩) HB14_15.out ?_
              case h12 => (intro WX hWX; go_simp)
              go_simp
              refine wpAnyH_take (i := 13) (v := .bool true) rfl (by kernel_rfl) (by kernel_rfl) (by kernel_rfl) (fun _ _ _ h => h) (Or.inl ⟨by kernel_rfl, ?h13⟩) HB14_15.out ?_
              case h13 => (intro WX hWX; go_simp)
              go_simp
              refine wpAnyH_take (i := 14) (v := .bool true) rfl (by kernel_rfl) (by kernel_rfl) (by kernel_rfl) (fun _ _ _ h => h) (Or.inl ⟨by kernel_rfl, ?h14⟩) HB14_15.out ?_
              case h14 => (intro WX hWX; go_simp)
              go_simp
              refine wpAnyH_take (i := 15) (v := .pointer (some ⟨W13.heap.size, 6, none⟩)) rfl (by kernel_rfl) (by kernel_rfl) (by kernel_rfl) (fun _ _ _ h => h) (Or.inl ⟨by kernel_rfl, ?h15⟩) HB14_15.out ?_
              case h15 => (intro WX hWX; go_simp)
              go_simp
              refine wpAnyH_take (i := 16) (v := .int .i64 f) rfl (by kernel_rfl) (by kernel_rfl) (by kernel_rfl) (fun _ _ _ h => h) (Or.inl ⟨by kernel_rfl, ?h16⟩) HB14_15.out ?_
              case h16 => (intro WX hWX; obtain ⟨y0_0, y0_1, y0_2, y0_3, y0_4, y0_5, y0_6, y0_7, y0_8, y0_9, y0_10, y0_11⟩ := cells12 (HX_t.out WX (show Below W14.heap.size W14 WX from hWX)); go_simp)
              go_simp
              refine wpAnyH_take (i := 17) (v := .pointer (some ⟨w.heap.size, 6, none⟩)) rfl (by kernel_rfl) (by kernel_rfl) (by kernel_rfl) (fun _ _ _ h => h) (Or.inl ⟨by kernel_rfl, ?h17⟩) HB14_15.out ?_
              case h17 => (intro WX hWX; go_simp)
              go_simp
              refine wpAnyH_take (i := 18) (v := .int .i64 f) rfl (by kernel_rfl) (by kernel_rfl) (by kernel_rfl) (fun _ _ _ h => h) (Or.inl ⟨by kernel_rfl, ?h18⟩) HB14_15.out ?_
              case h18 => (intro WX hWX; obtain ⟨y0_0, y0_1, y0_2, y0_3, y0_4, y0_5, y0_6, y0_7, y0_8, y0_9, y0_10, y0_11⟩ := cells12 (HX0.out WX (HB0_14.out.trans ((show Below W14.heap.size W14 WX from hWX).mono HB0_14.out.size))); go_simp)
              go_simp
              refine wpAnyH_take (i := 19) (v := .bool true) rfl (by kernel_rfl) (by kernel_rfl) (by kernel_rfl) (fun _ _ _ h => h) (Or.inl ⟨by kernel_rfl, ?h19⟩) HB14_15.out ?_
              case h19 => (intro WX hWX; go_simp)
              go_simp
              refine wpAnyH_take (i := 20) (v := .bool true) rfl (by kernel_rfl) (by kernel_rfl) (by kernel_rfl) (fun _ _ _ h => h) (Or.inl ⟨by kernel_rfl, ?h20⟩) HB14_15.out ?_
              case h20 => (intro WX hWX; go_simp)
              go_simp
              refine wpAnyH_take (i := 21) (v := .bool true) rfl (by kernel_rfl) (by kernel_rfl) (by kernel_rfl) (fun _ _ _ h => h) (Or.inl ⟨by kernel_rfl, ?h21⟩) HB14_15.out ?_
              case h21 => (intro WX hWX; go_simp)
              go_simp
              refine wpAnyH_take (i := 22) (v := .agg #[.int .i64 i, .int .i64 a, .int .i64 y, .int .i64 d, .int .i64 a1, .int .i64 a2, .int .i64 f, .int .i64 2, .int .i64 0, .int .i64 0, .int .i64 (v + 1), .bool false]) rfl (by kernel_rfl) (by kernel_rfl) (by kernel_rfl) (fun _ _ _ h => h) (Or.inl ⟨by kernel_rfl, ?h22⟩) HB14_15.out ?_
              case h22 => (intro WX hWX; obtain ⟨y0_0, y0_1, y0_2, y0_3, y0_4, y0_5, y0_6, y0_7, y0_8, y0_9, y0_10, y0_11⟩ := cells12 (HX_t.out WX (show Below W14.heap.size W14 WX from hWX)); go_simp)
              go_simp
              refine wpAnyH_take (i := 24) (v := .int .i64 a1) rfl (by kernel_rfl) (by kernel_rfl) (by kernel_rfl) (fun _ _ _ h => h) (Or.inl ⟨by kernel_rfl, ?h24⟩) HB14_15.out ?_
              case h24 => (intro WX hWX; go_simp)
              go_simp
              refine wpAnyH_take (i := 25) (v := .pointer (some ⟨w.heap.size, 6, none⟩)) rfl (by kernel_rfl) (by kernel_rfl) (by kernel_rfl) (fun _ _ _ h => h) (Or.inl ⟨by kernel_rfl, ?h25⟩) HB14_15.out ?_
              case h25 => (intro WX hWX; go_simp)
              go_simp
              refine wpAnyH_take (i := 26) (v := .int .i64 f) rfl (by kernel_rfl) (by kernel_rfl) (by kernel_rfl) (fun _ _ _ h => h) (Or.inl ⟨by kernel_rfl, ?h26⟩) HB14_15.out ?_
              case h26 => (intro WX hWX; obtain ⟨y0_0, y0_1, y0_2, y0_3, y0_4, y0_5, y0_6, y0_7, y0_8, y0_9, y0_10, y0_11⟩ := cells12 (HX0.out WX (HB0_14.out.trans ((show Below W14.heap.size W14 WX from hWX).mono HB0_14.out.size))); go_simp)
              go_simp
              refine wpAnyH_take (i := 27) (v := .int .i64 (a1 - f)) rfl (by kernel_rfl) (by kernel_rfl) (by kernel_rfl) (fun _ _ _ h => h) (Or.inl ⟨by kernel_rfl, ?h27⟩) HB14_15.out ?_
              case h27 => (intro WX hWX; go_simp)
              go_simp
              refine wpAnyH_ready (rs := [23]) (by kernel_rfl) (by simp) ?_
              refine AllReadyH.cons rfl (fun K hK => ?_) AllReadyH.nil
              go_simp
              go_wp2_with (refine Calls.mono (order.open_is i a y d a1 a2 f 2 0 0 (v + 1) false HFS.out HOS.out _) ?_; rintro e16 W16 ⟨rfl, hb⟩)
              have HB0_16 : Hid (Below W0.heap.size W0 W16) := Lib.hid (HB0_15.out.trans ((hb : Below W15.heap.size W15 W16).mono HB0_15.out.size))
              have HB1_16 : Hid (Below W1.heap.size W1 W16) := Lib.hid (HB1_15.out.trans ((hb : Below W15.heap.size W15 W16).mono HB1_15.out.size))
              have HB2_16 : Hid (Below W2.heap.size W2 W16) := Lib.hid (HB2_15.out.trans ((hb : Below W15.heap.size W15 W16).mono HB2_15.out.size))
              have HB3_16 : Hid (Below W3.heap.size W3 W16) := Lib.hid (HB3_15.out.trans ((hb : Below W15.heap.size W15 W16).mono HB3_15.out.size))
              have HB4_16 : Hid (Below W4.heap.size W4 W16) := Lib.hid (HB4_15.out.trans ((hb : Below W15.heap.size W15 W16).mono HB4_15.out.size))
              have HB5_16 : Hid (Below W5.heap.size W5 W16) := Lib.hid (HB5_15.out.trans ((hb : Below W15.heap.size W15 W16).mono HB5_15.out.size))
              have HB6_16 : Hid (Below W6.heap.size W6 W16) := Lib.hid (HB6_15.out.trans ((hb : Below W15.heap.size W15 W16).mono HB6_15.out.size))
              have HB7_16 : Hid (Below W7.heap.size W7 W16) := Lib.hid (HB7_15.out.trans ((hb : Below W15.heap.size W15 W16).mono HB7_15.out.size))
              have HB8_16 : Hid (Below W8.heap.size W8 W16) := Lib.hid (HB8_15.out.trans ((hb : Below W15.heap.size W15 W16).mono HB8_15.out.size))
              have HB9_16 : Hid (Below W9.heap.size W9 W16) := Lib.hid (HB9_15.out.trans ((hb : Below W15.heap.size W15 W16).mono HB9_15.out.size))
              have HB10_16 : Hid (Below W10.heap.size W10 W16) := Lib.hid (HB10_15.out.trans ((hb : Below W15.heap.size W15 W16).mono HB10_15.out.size))
              have HB11_16 : Hid (Below W11.heap.size W11 W16) := Lib.hid (HB11_15.out.trans ((hb : Below W15.heap.size W15 W16).mono HB11_15.out.size))
              have HB12_16 : Hid (Below W12.heap.size W12 W16) := Lib.hid (HB12_15.out.trans ((hb : Below W15.heap.size W15 W16).mono HB12_15.out.size))
              have HB13_16 : Hid (Below W13.heap.size W13 W16) := Lib.hid (HB13_15.out.trans ((hb : Below W15.heap.size W15 W16).mono HB13_15.out.size))
              have HB14_16 : Hid (Below W14.heap.size W14 W16) := Lib.hid (HB14_15.out.trans ((hb : Below W15.heap.size W15 W16).mono HB14_15.out.size))
              have HB15_16 : Hid (Below W15.heap.size W15 W16) := Lib.hid (hb)
              clear hb
              refine hK.out _ _ HB14_16.out (fun _ => ?_)
              clear hK K
              go_simp
              refine wpAnyH_take (i := 28) (v := .bool true) rfl (by kernel_rfl) (by kernel_rfl) (by kernel_rfl) (fun _ _ _ h => h) (Or.inl ⟨by kernel_rfl, ?h28⟩) HB14_16.out ?_
              case h28 => (intro WX hWX; go_simp)
              go_simp
              refine wpAnyH_take (i := 29) (v := .bool true) rfl (by kernel_rfl) (by kernel_rfl) (by kernel_rfl) (fun _ _ _ h => h) (Or.inl ⟨by kernel_rfl, ?h29⟩) HB14_16.out ?_
              case h29 => (intro WX hWX; go_simp)
              go_simp
              refine wpAnyH_take (i := 30) (v := .bool true) rfl (by kernel_rfl) (by kernel_rfl) (by kernel_rfl) (fun _ _ _ h => h) (Or.inl ⟨by kernel_rfl, ?h30⟩) HB14_16.out ?_
              case h30 => (intro WX hWX; go_simp)
              go_simp
              refine wpAnyH_take (i := 31) (v := .pointer (some ⟨W13.heap.size, 8, none⟩)) rfl (by kernel_rfl) (by kernel_rfl) (by kernel_rfl) (fun _ _ _ h => h) (Or.inl ⟨by kernel_rfl, ?h31⟩) HB14_16.out ?_
              case h31 => (intro WX hWX; go_simp)
              go_simp
              refine wpAnyH_take (i := 32) (v := .int .i64 0) rfl (by kernel_rfl) (by kernel_rfl) (by kernel_rfl) (fun _ _ _ h => h) (Or.inl ⟨by kernel_rfl, ?h32⟩) HB14_16.out ?_
              case h32 => (intro WX hWX; obtain ⟨y0_0, y0_1, y0_2, y0_3, y0_4, y0_5, y0_6, y0_7, y0_8, y0_9, y0_10, y0_11⟩ := cells12 (HX_t.out WX (show Below W14.heap.size W14 WX from hWX)); go_simp)
              go_simp
              refine wpAnyH_take (i := 33) (v := .bool true) rfl (by kernel_rfl) (by kernel_rfl) (by kernel_rfl) (fun _ _ _ h => h) (Or.inl ⟨by kernel_rfl, ?h33⟩) HB14_16.out ?_
              case h33 => (intro WX hWX; go_simp)
              go_simp
              refine wpAnyH_take (i := 34) (v := .bool true) rfl (by kernel_rfl) (by kernel_rfl) (by kernel_rfl) (fun _ _ _ h => h) (Or.inl ⟨by kernel_rfl, ?h34⟩) HB14_16.out ?_
              case h34 => (intro WX hWX; go_simp)
              go_simp
              refine wpAnyH_take (i := 35) (v := .bool true) rfl (by kernel_rfl) (by kernel_rfl) (by kernel_rfl) (fun _ _ _ h => h) (Or.inl ⟨by kernel_rfl, ?h35⟩) HB14_16.out ?_
              case h35 => (intro WX hWX; go_simp)
              go_simp
              refine wpAnyH_done (by kernel_rfl) ?_ _
              go_wp2_with fail
              go_ret
              exact ⟨rfl, HBW.out.trans (HB0_16.out.mono HBW.out.size)⟩
        · obtain ⟨hpo, he⟩ := he
          have HPO := Lib.hid hpo
          clear hpo
          rcases he with rfl | rfl
          · have heq : ∀ W, (Op.equalIn 10000 23 (.agg #[.int .i64 iA, .int .i64 aA, .int .i64 yA, .int .i64 dA, .int .i64 qA, .int .i64 pA, .int .i64 fA, .int .i64 phA, .int .i64 mA, .int .i64 rA, .int .i64 vA, .bool gA]) (.agg #[.int .i64 i, .int .i64 a, .int .i64 y, .int .i64 d, .int .i64 q, .int .i64 p, .int .i64 f, .int .i64 ph, .int .i64 m, .int .i64 r, .int .i64 v, .bool g])).run Try.prog W = .ok true W := fun W => eq12_of rfl rfl HFA.out HF.out (decide_eq_true HPO.out) W
            obtain ⟨k_0, k_1, k_2, k_3, k_4, k_5, k_6, k_7, k_8, k_9, k_10, k_11⟩ := cells12 (HX0.out W4 HB0_4.out)
            rw [← HW4.out] at k_0 k_1 k_2 k_3 k_4 k_5 k_6 k_7 k_8 k_9 k_10 k_11
            go_wp2_with fail
            go_ret
            exact ⟨rfl, by rw [HW4.out]; exact HBW.out.trans (HB0_4.out.mono HBW.out.size)⟩
          · have heq : ∀ W, (Op.equalIn 10000 23 (.agg #[.int .i64 iA, .int .i64 aA, .int .i64 yA, .int .i64 dA, .int .i64 qA, .int .i64 pA, .int .i64 fA, .int .i64 phA, .int .i64 mA, .int .i64 rA, .int .i64 vA, .bool gA]) (.agg #[.int .i64 i, .int .i64 a, .int .i64 y, .int .i64 d, .int .i64 q, .int .i64 p, .int .i64 f, .int .i64 ph, .int .i64 m, .int .i64 r, .int .i64 v, .bool g])).run Try.prog W = .ok true W := fun W => eq12_of rfl rfl HFA.out HF.out (decide_eq_true HPO.out) W
            obtain ⟨k_0, k_1, k_2, k_3, k_4, k_5, k_6, k_7, k_8, k_9, k_10, k_11⟩ := cells12 (HX0.out W4 HB0_4.out)
            rw [← HW4.out] at k_0 k_1 k_2 k_3 k_4 k_5 k_6 k_7 k_8 k_9 k_10 k_11
            go_wp2_with fail
            go_ret
            exact ⟨rfl, by rw [HW4.out]; exact HBW.out.trans (HB0_4.out.mono HBW.out.size)⟩
  -- WALK ENDS

set_option maxRecDepth 100000 in
theorem lifted (os : Os) (started : os.Started) (H : Type) (enc : TypeId × Value → H) :
    ReturnsInHanded {} Try.checked os 6 .any (Rows.orderAsksSpec.pre6 enc Try.prog Try.f6 Rows.orderAsksRow.domain false) (Rows.orderAsksSpec.post enc Try.prog Try.f6 false true false false) := by
  refine returnsInHanded_of_change (C := Try.checked) own started (by kernel_rfl) Try.func6
    (ChangeSpec.witness6 (enc := enc) (C := Try.checked) false ⟨#[], #[.agg #[.int .i64 0, .int .i64 0, .int .i64 0, .int .i64 0, .int .i64 0, .int .i64 0, .int .i64 0, .int .i64 0, .int .i64 0, .int .i64 0, .int .i64 0, .bool false], .int .i64 0, .int .i64 0, .int .i64 0], []⟩ 8 (by kernel_rfl) (by kernel_rfl) (by kernel_rfl) (by kernel_rfl)) ?_
  intro W base args ds gs before hval0 hW hcnd _
  have hval : ∀ (j : Nat) t v, Try.f6.params[j]? = some t → args[j]? = some v → Value.okWide Try.prog W .any base t v := hval0
  have hW' := hW
  obtain ⟨p, q, hA0, hV, rfl, hfz, hnd⟩ := hW
  have hA : DataW.TrodAll enc Try.prog W 0 (fun _ => true) true Try.f6.params.toList args.toList ds p := hA0
  rw [Try.params6] at hA hval
  obtain ⟨v0, vs0, d0, ds0, p0_, q0, hargs, rfl, rfl, h0, r0⟩ := trodAll_cons hA
  obtain ⟨v1, vs1, d1, ds1, p1_, q1, rfl, rfl, rfl, h1, r1⟩ := trodAll_cons r0
  obtain ⟨v2, vs2, d2, ds2, p2_, q2, rfl, rfl, rfl, h2, r2⟩ := trodAll_cons r1
  obtain ⟨v3, vs3, d3, ds3, p3_, q3, rfl, rfl, rfl, h3, r3⟩ := trodAll_cons r2
  obtain ⟨rfl, rfl, rfl⟩ := trodAll_nil r3
  obtain rfl : args = #[v0, v1, v2, v3] := by cases args; simp_all
  obtain ⟨rfl, rfl⟩ := trodVars_none hV
  obtain ⟨cs0, rfl, hsz0⟩ := okWide_struct Try.underlying23 (hval 0 23 v0 rfl rfl)
  have k0 := h0
  have lt0 : ∀ x ∈ p0_, x.block < W.heap.size := by obtain ⟨m, hm⟩ := k0; exact DataW.trod_lt m _ _ _ hm
  obtain ⟨x0, w0⟩ := of_arg of_order k0
  obtain ⟨a1, rfl, rfl, rfl, w1⟩ := open_int Try.underlying2 (hval 1 2 v1 rfl rfl) h1
  obtain ⟨a2, rfl, rfl, rfl, w2⟩ := open_int Try.underlying2 (hval 2 2 v2 rfl rfl) h2
  obtain ⟨a3, rfl, rfl, rfl, w3⟩ := open_int Try.underlying2 (hval 3 2 v3 rfl rfl) h3
  clear hA0 hval0
  refine (walk cs0 x0 a1 a2 a3 W w0 w1 w2 w3).mono fun e W' ⟨he, bel⟩ => ?_
  subst he
  exact ⟨_, rfl, _, _, _, [], _, [], hW', trodAll_mk1 (shut_bool Try.underlying4 _), (trodAll_cons_mk (Below.trod laidOut (by kernel_rfl) (of_decide_eq_true (by kernel_rfl)) k0 bel lt0) (trodAll_cons_mk (shut_int Try.underlying2 w1) (trodAll_cons_mk (shut_int Try.underlying2 w2) (trodAll_cons_mk (shut_int Try.underlying2 w3) trodAll_mk0)))), rfl, bel.frame _, fun h => by cases h⟩

theorem over : Rows.orderAsksRow.holds Try.pinned (OpenSpec.ofChange Rows.orderAsksSpec) :=
  OpenClaim.holds_of_wide 6 Try.f6 rfl rfl rfl rfl rfl rfl rfl ⟨rfl, rfl, rfl, rfl, rfl⟩ rfl rfl rfl rfl rfl (by kernel_rfl) Try.func6 (by kernel_rfl)
    (of_decide_eq_true (by kernel_rfl)) (by unfold Func.isWrapper; first | (rw [if_pos (by decide +kernel)]; kernel_rfl) | (rw [if_neg (by decide +kernel)]; exact ⟨rfl, rfl⟩))
    (fun os started H enc _ => lifted os started H enc)

theorem proved : Rows.OrderAsksSaid := over
#print axioms proved
end Go.Proofs.Ytfnapckjccjjjaa.orderAsks
