/-
  PROVED: the law OrderFills answers true at every input, and leaves what it was given as it was.
  CONDITIONS: none.
-/
import Derived.Test.YtfnapckjccjjjaaRows
import Derived.WalkKit
import Derived.ProofKit
import Derived.OpenShut
import Derived.ShutString
import Derived.ChangeOld
import Derived.Below
import Derived.Deep.RegionHeld
import Derived.Deep.DrawnRows
import Derived.Deep.DeepCutAuto
import Derived.Test.YtfnapckjccjjjaaAwake07
import Derived.Test.YtfnapckjccjjjaaOrdEq
namespace Go.Proofs.Ytfnapckjccjjjaa.orderFills
open Go.ChangeShapes Go.WideShapes Go.ChangeAt Go.RowKit
open Go.ChangeMaps (open_string shut_string)
open Go.Proofs.Ytfnapckjccjjjaa Go.Proofs.Ytfnapckjccjjjaa.order
attribute [local go_sem] undef
attribute [local go_sem ↓] Go.wp_at_zero Go.wp_at_succ
set_option linter.unusedVariables false

theorem own : ownKnob Try.prog.godebug = none := by kernel_rfl
theorem laidOut : laidOutB Try.prog = true := by kernel_rfl

set_option maxHeartbeats 8000000 in
set_option maxRecDepth 100000 in
theorem walk (cs0 : Array Value) (x0 : OrderD) (a1 : Int) (a2 : Int) (a3 : Int) (w : World) (w0 : rdOrder w (Lt w.heap.size) cs0.toList x0) (w1 : (Lit.int .i64 a1).wf = true) (w2 : (Lit.int .i64 a2).wf = true) (w3 : (Lit.int .i64 a3).wf = true) :
    Calls Try.prog 5 #[.agg cs0, .int .i64 a1, .int .i64 a2, .int .i64 a3] w fun e w' => e = .returned (.bool true) ∧ Below w.heap.size w w' := by
  -- WALK BEGINS
  obtain ⟨hc0, hf0⟩ := w0
  obtain rfl : cs0 = oc x0 := by apply Array.toList_inj.1; exact hc0
  clear hc0
  obtain ⟨i, a, y, d, q, p, f, ph, m, r, v, g⟩ := x0
  show Calls Try.prog 5 #[.agg #[.int .i64 i, .int .i64 a, .int .i64 y, .int .i64 d, .int .i64 q, .int .i64 p, .int .i64 f, .int .i64 ph, .int .i64 m, .int .i64 r, .int .i64 v, .bool g], .int .i64 a1, .int .i64 a2, .int .i64 a3] w _
  obtain ⟨W0, HW0⟩ : ∃ W, Hid ((w.alloc (.cells #[.int .i64 i, .int .i64 a, .int .i64 y, .int .i64 d, .int .i64 q, .int .i64 p, .int .i64 f, .int .i64 ph, .int .i64 m, .int .i64 r, .int .i64 v, .bool g] 23)) = W) := ⟨_, Lib.hid rfl⟩
  have HBW : Hid (Below w.heap.size w W0) := Lib.hid (by rw [← HW0.out]; exact (Below.refl _ _).alloc (by simp) _)
  have HX0 : Hid (∀ W, Below W0.heap.size W0 W → W.heap[w.heap.size]? = some (.cells #[.int .i64 i, .int .i64 a, .int .i64 y, .int .i64 d, .int .i64 q, .int .i64 p, .int .i64 f, .int .i64 ph, .int .i64 m, .int .i64 r, .int .i64 v, .bool g] 23 (0, 0))) := Lib.hid (fun W hb => (hb.block _ (by rw [← HW0.out]; simp; try omega)).trans (by rw [← HW0.out]; have := heap_alloc_new w (.cells #[.int .i64 i, .int .i64 a, .int .i64 y, .int .i64 d, .int .i64 q, .int .i64 p, .int .i64 f, .int .i64 ph, .int .i64 m, .int .i64 r, .int .i64 v, .bool g] 23); exact this))
  have HF := Lib.hid hf0
  have HI : Hid (frame.inR a1 ∧ frame.inR a2 ∧ frame.inR a3) := Lib.hid ⟨inI_of_wf w1, inI_of_wf w2, inI_of_wf w3⟩
  obtain ⟨c, HC⟩ : ∃ x, Hid (right ⟨i, a, y, d, q, p, f, ph, m, r, v, g⟩ = x) := ⟨_, Lib.hid rfl⟩
  clear hf0 w1 w2 w3
  go_enter Try.func5, Try.ntmps5
  go_wp2_with fail
  refine Calls.mono (order.awake_any _) ?_
  rintro e1 W1 ⟨rfl, hb⟩
  rw [HW0.out] at hb
  have HB0_1 : Hid (Below W0.heap.size W0 W1) := Lib.hid (hb)
  clear hb
  obtain ⟨k_0, k_1, k_2, k_3, k_4, k_5, k_6, k_7, k_8, k_9, k_10, k_11⟩ := cells12 (HX0.out W1 HB0_1.out)
  go_wp2_with fail
  refine Calls.mono (order.right_is i a y d q p f ph m r v g HF.out HC.out _) ?_
  rintro e2 W2 ⟨rfl, hb⟩
  have HB0_2 : Hid (Below W0.heap.size W0 W2) := Lib.hid (HB0_1.out.trans ((hb : Below W1.heap.size W1 W2).mono HB0_1.out.size))
  have HB1_2 : Hid (Below W1.heap.size W1 W2) := Lib.hid (hb)
  clear hb
  clear k_0 k_1 k_2 k_3 k_4 k_5 k_6 k_7 k_8 k_9 k_10 k_11
  obtain ⟨k_0, k_1, k_2, k_3, k_4, k_5, k_6, k_7, k_8, k_9, k_10, k_11⟩ := cells12 (HX0.out W2 HB0_2.out)
  rcases c with _ | _
  · go_wp2_with fail
    go_ret
    exact ⟨rfl, HBW.out.trans (HB0_2.out.mono HBW.out.size)⟩
  · by_cases hp : ph = 2
    · subst hp
      by_cases hq1 : a1 < 1
      · go_wp2_with fail
        go_ret
        exact ⟨rfl, HBW.out.trans (HB0_2.out.mono HBW.out.size)⟩
      · have hn1 : 1 ≤ a1 := by omega
        clear hq1
        by_cases hq2 : a2 < 1
        · go_wp2_with fail
          go_ret
          exact ⟨rfl, HBW.out.trans (HB0_2.out.mono HBW.out.size)⟩
        · have hn2 : 1 ≤ a2 := by omega
          clear hq2
          by_cases hq3 : q < a1
          · go_wp2_with fail
            go_ret
            exact ⟨rfl, HBW.out.trans (HB0_2.out.mono HBW.out.size)⟩
          · have hn3 : a1 ≤ q := by omega
            clear hq3
            by_cases hq4 : q < a2
            · go_wp2_with fail
              go_ret
              exact ⟨rfl, HBW.out.trans (HB0_2.out.mono HBW.out.size)⟩
            · have hn4 : a2 ≤ q := by omega
              clear hq4
              by_cases hq5 : a3 < 1
              · go_wp2_with fail
                go_ret
                exact ⟨rfl, HBW.out.trans (HB0_2.out.mono HBW.out.size)⟩
              · have hn5 : 1 ≤ a3 := by omega
                clear hq5
                by_cases hq6 : 1000 < a3
                · go_wp2_with fail
                  go_ret
                  exact ⟨rfl, HBW.out.trans (HB0_2.out.mono HBW.out.size)⟩
                · have hn6 : a3 ≤ 1000 := by omega
                  clear hq6
                  have hr := right_iff.1 HC.out
                  unfold Rightly at hr
                  simp only at hr
                  have hm := HF.out
                  simp only [Or.fine, frame.inR] at hm
                  have h1 : IntKind.i64.wrap (q - f) = q - f := IntWalk.i64_in _ (by omega)
                  have h2 : IntKind.i64.wrap (f + a1) = f + a1 ∨ q - f < a1 := by
                    by_cases hh : a1 ≤ q - f
                    · exact .inl (IntWalk.i64_in _ (by omega))
                    · exact .inr (by omega)
                  have h3 : 0 ≤ f := by omega
                  have h4 : f ≤ q := by omega
                  have h5 : q ≤ 9223372036854775807 := by omega
                  clear hr hm
                  have HR := Lib.hid (right_iff.1 HC.out)
                  by_cases ho : q - f < a1
                  · have HT1 : Hid (take ⟨i, a, y, d, q, p, f, 2, m, r, v, g⟩ ⟨a3, 3, i, a1, 0⟩ = (⟨i, a, y, d, q, p, f, 2, m, r, v, g⟩, 8)) := Lib.hid (fill_over HR.out rfl ⟨by omega, by omega⟩ (by omega) (by simp only; omega))
                    clear h2
                    clear k_0 k_1 k_2 k_3 k_4 k_5 k_6 k_7 k_8 k_9 k_10 k_11
                    obtain ⟨k_0, k_1, k_2, k_3, k_4, k_5, k_6, k_7, k_8, k_9, k_10, k_11⟩ := cells12 (HX0.out W2 HB0_2.out)
                    go_wp2_with fail
                    refine Calls.mono (order.take_is i a y d q p f 2 m r v g a3 3 i a1 0 HF.out ⟨HI.out.2.2, by simp [frame.inR], HF.out.1, HI.out.1, rec.in0⟩ HT1.out _) ?_
                    rintro e3 W3 ⟨rfl, hb⟩
                    have HB0_3 : Hid (Below W0.heap.size W0 W3) := Lib.hid (HB0_2.out.trans ((hb : Below W2.heap.size W2 W3).mono HB0_2.out.size))
                    have HB1_3 : Hid (Below W1.heap.size W1 W3) := Lib.hid (HB1_2.out.trans ((hb : Below W2.heap.size W2 W3).mono HB1_2.out.size))
                    have HB2_3 : Hid (Below W2.heap.size W2 W3) := Lib.hid (hb)
                    clear hb
                    clear k_0 k_1 k_2 k_3 k_4 k_5 k_6 k_7 k_8 k_9 k_10 k_11
                    obtain ⟨W4, HW4⟩ : ∃ W, Hid ((W3.alloc (.cells #[.int .i64 i, .int .i64 a, .int .i64 y, .int .i64 d, .int .i64 q, .int .i64 p, .int .i64 f, .int .i64 2, .int .i64 m, .int .i64 r, .int .i64 v, .bool g] 23)) = W) := ⟨_, Lib.hid rfl⟩
                    have HB0_4 : Hid (Below W0.heap.size W0 W4) := Lib.hid (HB0_3.out.trans ((by rw [← HW4.out]; exact (Below.refl _ _).alloc (Nat.le_refl _) _ : Below W3.heap.size W3 W4).mono HB0_3.out.size))
                    have HB1_4 : Hid (Below W1.heap.size W1 W4) := Lib.hid (HB1_3.out.trans ((by rw [← HW4.out]; exact (Below.refl _ _).alloc (Nat.le_refl _) _ : Below W3.heap.size W3 W4).mono HB1_3.out.size))
                    have HB2_4 : Hid (Below W2.heap.size W2 W4) := Lib.hid (HB2_3.out.trans ((by rw [← HW4.out]; exact (Below.refl _ _).alloc (Nat.le_refl _) _ : Below W3.heap.size W3 W4).mono HB2_3.out.size))
                    have HB3_4 : Hid (Below W3.heap.size W3 W4) := Lib.hid (by rw [← HW4.out]; exact (Below.refl _ _).alloc (Nat.le_refl _) _)
                    have HX_p : Hid (∀ W, Below W4.heap.size W4 W → W.heap[W3.heap.size]? = some (.cells #[.int .i64 i, .int .i64 a, .int .i64 y, .int .i64 d, .int .i64 q, .int .i64 p, .int .i64 f, .int .i64 2, .int .i64 m, .int .i64 r, .int .i64 v, .bool g] 23 (0, 0))) := Lib.hid (fun W hb => (hb.block _ (by rw [← HW4.out]; simp)).trans (by rw [← HW4.out]; exact heap_alloc_new _ _))
                    go_wp2_with fail
                    go_ret
                    exact ⟨rfl, by rw [HW4.out]; exact HBW.out.trans (HB0_4.out.mono HBW.out.size)⟩
                  · have hw2 : IntKind.i64.wrap (f + a1) = f + a1 := IntWalk.i64_in _ (by omega)
                    clear h2
                    obtain ⟨P1, ht1, hpf, hpi, hph, hover, hok⟩ := fill_two HR.out rfl (z := a3) (a := a1) (b := a2) ⟨by omega, by omega⟩ (by omega) (by omega) (by simp only; omega)
                    obtain ⟨iA, aA, yA, dA, qA, pA, fA, phA, mA, rA, vA, gA⟩ := P1
                    simp only at hpf hpi hph hover hok ht1
                    obtain rfl : fA = f + a1 := hpf
                    obtain rfl : i = iA := hpi.symm
                    have HT1 := Lib.hid ht1
                    have HFA : Hid ((⟨i, aA, yA, dA, qA, pA, (f + a1), phA, mA, rA, vA, gA⟩ : Or).fine) := Lib.hid (take_fine HF.out ht1)
                    have HPH := Lib.hid hph
                    clear hph ht1
                    have hl1 : ¬ q - f < a1 := by omega
                    clear k_0 k_1 k_2 k_3 k_4 k_5 k_6 k_7 k_8 k_9 k_10 k_11
                    obtain ⟨k_0, k_1, k_2, k_3, k_4, k_5, k_6, k_7, k_8, k_9, k_10, k_11⟩ := cells12 (HX0.out W2 HB0_2.out)
                    go_wp2_with fail
                    refine Calls.mono (order.take_is i a y d q p f 2 m r v g a3 3 i a1 0 HF.out ⟨HI.out.2.2, by simp [frame.inR], HF.out.1, HI.out.1, rec.in0⟩ HT1.out _) ?_
                    rintro e3 W3 ⟨rfl, hb⟩
                    have HB0_3 : Hid (Below W0.heap.size W0 W3) := Lib.hid (HB0_2.out.trans ((hb : Below W2.heap.size W2 W3).mono HB0_2.out.size))
                    have HB1_3 : Hid (Below W1.heap.size W1 W3) := Lib.hid (HB1_2.out.trans ((hb : Below W2.heap.size W2 W3).mono HB1_2.out.size))
                    have HB2_3 : Hid (Below W2.heap.size W2 W3) := Lib.hid (hb)
                    clear hb
                    clear k_0 k_1 k_2 k_3 k_4 k_5 k_6 k_7 k_8 k_9 k_10 k_11
                    obtain ⟨W4, HW4⟩ : ∃ W, Hid ((W3.alloc (.cells #[.int .i64 i, .int .i64 aA, .int .i64 yA, .int .i64 dA, .int .i64 qA, .int .i64 pA, .int .i64 (f + a1), .int .i64 phA, .int .i64 mA, .int .i64 rA, .int .i64 vA, .bool gA] 23)) = W) := ⟨_, Lib.hid rfl⟩
                    have HB0_4 : Hid (Below W0.heap.size W0 W4) := Lib.hid (HB0_3.out.trans ((by rw [← HW4.out]; exact (Below.refl _ _).alloc (Nat.le_refl _) _ : Below W3.heap.size W3 W4).mono HB0_3.out.size))
                    have HB1_4 : Hid (Below W1.heap.size W1 W4) := Lib.hid (HB1_3.out.trans ((by rw [← HW4.out]; exact (Below.refl _ _).alloc (Nat.le_refl _) _ : Below W3.heap.size W3 W4).mono HB1_3.out.size))
                    have HB2_4 : Hid (Below W2.heap.size W2 W4) := Lib.hid (HB2_3.out.trans ((by rw [← HW4.out]; exact (Below.refl _ _).alloc (Nat.le_refl _) _ : Below W3.heap.size W3 W4).mono HB2_3.out.size))
                    have HB3_4 : Hid (Below W3.heap.size W3 W4) := Lib.hid (by rw [← HW4.out]; exact (Below.refl _ _).alloc (Nat.le_refl _) _)
                    have HX_p : Hid (∀ W, Below W4.heap.size W4 W → W.heap[W3.heap.size]? = some (.cells #[.int .i64 i, .int .i64 aA, .int .i64 yA, .int .i64 dA, .int .i64 qA, .int .i64 pA, .int .i64 (f + a1), .int .i64 phA, .int .i64 mA, .int .i64 rA, .int .i64 vA, .bool gA] 23 (0, 0))) := Lib.hid (fun W hb => (hb.block _ (by rw [← HW4.out]; simp)).trans (by rw [← HW4.out]; exact heap_alloc_new _ _))
                    by_cases hfull : a1 = q - f
                    · obtain rfl : phA = 3 := HPH.out.2 hfull
                      have hfb : (a1 == q - f) = true := by simp [← hfull]
                      have HFULL := Lib.hid hfull
                      clear hfull
                      obtain ⟨k_0, k_1, k_2, k_3, k_4, k_5, k_6, k_7, k_8, k_9, k_10, k_11⟩ := cells12 (HX0.out W4 HB0_4.out)
                      rw [← HW4.out] at k_0 k_1 k_2 k_3 k_4 k_5 k_6 k_7 k_8 k_9 k_10 k_11
                      obtain ⟨⟨⟨iB, aB, yB, dB, qB, pB, fB, phB, mB, rB, vB, gB⟩, eB⟩, ht2⟩ : ∃ x, take ⟨i, aA, yA, dA, qA, pA, (f + a1), 3, mA, rA, vA, gA⟩ ⟨a3 + 1, 3, i, a2, 0⟩ = x := ⟨_, rfl⟩
                      have HT2 := Lib.hid ht2
                      have HFB : Hid ((⟨iB, aB, yB, dB, qB, pB, fB, phB, mB, rB, vB, gB⟩ : Or).fine) := Lib.hid (take_fine HFA.out ht2)
                      have hwa : IntKind.i64.wrap (a3 + 1) = a3 + 1 := IntWalk.i64_in _ (by omega)
                      have hwb : IntKind.i64.wrap (q - f - a1) = q - f - a1 := IntWalk.i64_in _ (by omega)
                      by_cases hb : q - f - a1 < a2
                      · obtain rfl : eB = 8 := by have := hover hb; rw [ht2] at this; exact this
                        clear hover hok ht2
                        go_wp2_with fail
                        refine Calls.mono (order.take_is i aA yA dA qA pA (f + a1) 3 mA rA vA gA (a3 + 1) 3 i a2 0 HFA.out ⟨by have := HI.out.2.2; simp only [frame.inR] at this ⊢; omega, by simp [frame.inR], HF.out.1, HI.out.2.1, rec.in0⟩ HT2.out _) ?_
                        rintro e5 W5 ⟨rfl, hb⟩
                        rw [HW4.out] at hb
                        have HB0_5 : Hid (Below W0.heap.size W0 W5) := Lib.hid (HB0_4.out.trans ((hb : Below W4.heap.size W4 W5).mono HB0_4.out.size))
                        have HB1_5 : Hid (Below W1.heap.size W1 W5) := Lib.hid (HB1_4.out.trans ((hb : Below W4.heap.size W4 W5).mono HB1_4.out.size))
                        have HB2_5 : Hid (Below W2.heap.size W2 W5) := Lib.hid (HB2_4.out.trans ((hb : Below W4.heap.size W4 W5).mono HB2_4.out.size))
                        have HB3_5 : Hid (Below W3.heap.size W3 W5) := Lib.hid (HB3_4.out.trans ((hb : Below W4.heap.size W4 W5).mono HB3_4.out.size))
                        have HB4_5 : Hid (Below W4.heap.size W4 W5) := Lib.hid (hb)
                        clear hb
                        clear k_0 k_1 k_2 k_3 k_4 k_5 k_6 k_7 k_8 k_9 k_10 k_11
                        obtain ⟨W6, HW6⟩ : ∃ W, Hid ((W5.alloc (.cells #[.int .i64 iB, .int .i64 aB, .int .i64 yB, .int .i64 dB, .int .i64 qB, .int .i64 pB, .int .i64 fB, .int .i64 phB, .int .i64 mB, .int .i64 rB, .int .i64 vB, .bool gB] 23)) = W) := ⟨_, Lib.hid rfl⟩
                        have HB0_6 : Hid (Below W0.heap.size W0 W6) := Lib.hid (HB0_5.out.trans ((by rw [← HW6.out]; exact (Below.refl _ _).alloc (Nat.le_refl _) _ : Below W5.heap.size W5 W6).mono HB0_5.out.size))
                        have HB1_6 : Hid (Below W1.heap.size W1 W6) := Lib.hid (HB1_5.out.trans ((by rw [← HW6.out]; exact (Below.refl _ _).alloc (Nat.le_refl _) _ : Below W5.heap.size W5 W6).mono HB1_5.out.size))
                        have HB2_6 : Hid (Below W2.heap.size W2 W6) := Lib.hid (HB2_5.out.trans ((by rw [← HW6.out]; exact (Below.refl _ _).alloc (Nat.le_refl _) _ : Below W5.heap.size W5 W6).mono HB2_5.out.size))
                        have HB3_6 : Hid (Below W3.heap.size W3 W6) := Lib.hid (HB3_5.out.trans ((by rw [← HW6.out]; exact (Below.refl _ _).alloc (Nat.le_refl _) _ : Below W5.heap.size W5 W6).mono HB3_5.out.size))
                        have HB4_6 : Hid (Below W4.heap.size W4 W6) := Lib.hid (HB4_5.out.trans ((by rw [← HW6.out]; exact (Below.refl _ _).alloc (Nat.le_refl _) _ : Below W5.heap.size W5 W6).mono HB4_5.out.size))
                        have HB5_6 : Hid (Below W5.heap.size W5 W6) := Lib.hid (by rw [← HW6.out]; exact (Below.refl _ _).alloc (Nat.le_refl _) _)
                        have HX_q : Hid (∀ W, Below W6.heap.size W6 W → W.heap[W5.heap.size]? = some (.cells #[.int .i64 iB, .int .i64 aB, .int .i64 yB, .int .i64 dB, .int .i64 qB, .int .i64 pB, .int .i64 fB, .int .i64 phB, .int .i64 mB, .int .i64 rB, .int .i64 vB, .bool gB] 23 (0, 0))) := Lib.hid (fun W hb => (hb.block _ (by rw [← HW6.out]; simp)).trans (by rw [← HW6.out]; exact heap_alloc_new _ _))
                        obtain ⟨k_0, k_1, k_2, k_3, k_4, k_5, k_6, k_7, k_8, k_9, k_10, k_11⟩ := cells12 (HX0.out W6 HB0_6.out)
                        rw [← HW6.out] at k_0 k_1 k_2 k_3 k_4 k_5 k_6 k_7 k_8 k_9 k_10 k_11
                        go_wp2_with fail
                        go_ret
                        exact ⟨rfl, by rw [HW6.out]; exact HBW.out.trans (HB0_6.out.mono HBW.out.size)⟩
                      · have hb' : a2 ≤ q - f - a1 := by omega
                        have hok' := hok hb'
                        rw [ht2] at hok'
                        obtain ⟨hk1, hk2⟩ := hok'
                        obtain ⟨⟨⟨iC, aC, yC, dC, qC, pC, fC, phC, mC, rC, vC, gC⟩, eC⟩, ht3⟩ : ∃ x, take ⟨i, a, y, d, q, p, f, 2, m, r, v, g⟩ ⟨a3, 3, i, a1 + a2, 0⟩ = x := ⟨_, rfl⟩
                        rw [ht3] at hk1 hk2
                        simp only [Prod.mk.injEq, Or.mk.injEq] at hk1 hk2
                        obtain ⟨⟨rfl, rfl, rfl, rfl, rfl, rfl, rfl, rfl, rfl, rfl, rfl, rfl⟩, rfl⟩ := hk1
                        obtain rfl : eC = 0 := hk2
                        have HT3 := Lib.hid ht3
                        clear hover hok ht2 ht3
                        have hwc : IntKind.i64.wrap (a1 + a2) = a1 + a2 := IntWalk.i64_in _ (by omega)
                        have heq : ∀ W, (Op.equalIn 10000 23 (.agg #[.int .i64 iB, .int .i64 aB, .int .i64 yB, .int .i64 dB, .int .i64 qB, .int .i64 pB, .int .i64 fB, .int .i64 phB, .int .i64 mB, .int .i64 rB, .int .i64 vB, .bool gB]) (.agg #[.int .i64 iB, .int .i64 aB, .int .i64 yB, .int .i64 dB, .int .i64 qB, .int .i64 pB, .int .i64 fB, .int .i64 phB, .int .i64 mB, .int .i64 rB, .int .i64 vB, .bool gB])).run Try.prog W = .ok true W := fun W => eq12_of rfl rfl HFB.out HFB.out (decide_eq_true rfl) W
                        go_wp2_with fail
                        refine Calls.mono (order.take_is i aA yA dA qA pA (f + a1) 3 mA rA vA gA (a3 + 1) 3 i a2 0 HFA.out ⟨by have := HI.out.2.2; simp only [frame.inR] at this ⊢; omega, by simp [frame.inR], HF.out.1, HI.out.2.1, rec.in0⟩ HT2.out _) ?_
                        rintro e5 W5 ⟨rfl, hb⟩
                        rw [HW4.out] at hb
                        have HB0_5 : Hid (Below W0.heap.size W0 W5) := Lib.hid (HB0_4.out.trans ((hb : Below W4.heap.size W4 W5).mono HB0_4.out.size))
                        have HB1_5 : Hid (Below W1.heap.size W1 W5) := Lib.hid (HB1_4.out.trans ((hb : Below W4.heap.size W4 W5).mono HB1_4.out.size))
                        have HB2_5 : Hid (Below W2.heap.size W2 W5) := Lib.hid (HB2_4.out.trans ((hb : Below W4.heap.size W4 W5).mono HB2_4.out.size))
                        have HB3_5 : Hid (Below W3.heap.size W3 W5) := Lib.hid (HB3_4.out.trans ((hb : Below W4.heap.size W4 W5).mono HB3_4.out.size))
                        have HB4_5 : Hid (Below W4.heap.size W4 W5) := Lib.hid (hb)
                        clear hb
                        clear k_0 k_1 k_2 k_3 k_4 k_5 k_6 k_7 k_8 k_9 k_10 k_11
                        obtain ⟨W6, HW6⟩ : ∃ W, Hid ((W5.alloc (.cells #[.int .i64 iB, .int .i64 aB, .int .i64 yB, .int .i64 dB, .int .i64 qB, .int .i64 pB, .int .i64 fB, .int .i64 phB, .int .i64 mB, .int .i64 rB, .int .i64 vB, .bool gB] 23)) = W) := ⟨_, Lib.hid rfl⟩
                        have HB0_6 : Hid (Below W0.heap.size W0 W6) := Lib.hid (HB0_5.out.trans ((by rw [← HW6.out]; exact (Below.refl _ _).alloc (Nat.le_refl _) _ : Below W5.heap.size W5 W6).mono HB0_5.out.size))
                        have HB1_6 : Hid (Below W1.heap.size W1 W6) := Lib.hid (HB1_5.out.trans ((by rw [← HW6.out]; exact (Below.refl _ _).alloc (Nat.le_refl _) _ : Below W5.heap.size W5 W6).mono HB1_5.out.size))
                        have HB2_6 : Hid (Below W2.heap.size W2 W6) := Lib.hid (HB2_5.out.trans ((by rw [← HW6.out]; exact (Below.refl _ _).alloc (Nat.le_refl _) _ : Below W5.heap.size W5 W6).mono HB2_5.out.size))
                        have HB3_6 : Hid (Below W3.heap.size W3 W6) := Lib.hid (HB3_5.out.trans ((by rw [← HW6.out]; exact (Below.refl _ _).alloc (Nat.le_refl _) _ : Below W5.heap.size W5 W6).mono HB3_5.out.size))
                        have HB4_6 : Hid (Below W4.heap.size W4 W6) := Lib.hid (HB4_5.out.trans ((by rw [← HW6.out]; exact (Below.refl _ _).alloc (Nat.le_refl _) _ : Below W5.heap.size W5 W6).mono HB4_5.out.size))
                        have HB5_6 : Hid (Below W5.heap.size W5 W6) := Lib.hid (by rw [← HW6.out]; exact (Below.refl _ _).alloc (Nat.le_refl _) _)
                        have HX_q : Hid (∀ W, Below W6.heap.size W6 W → W.heap[W5.heap.size]? = some (.cells #[.int .i64 iB, .int .i64 aB, .int .i64 yB, .int .i64 dB, .int .i64 qB, .int .i64 pB, .int .i64 fB, .int .i64 phB, .int .i64 mB, .int .i64 rB, .int .i64 vB, .bool gB] 23 (0, 0))) := Lib.hid (fun W hb => (hb.block _ (by rw [← HW6.out]; simp)).trans (by rw [← HW6.out]; exact heap_alloc_new _ _))
                        obtain ⟨k_0, k_1, k_2, k_3, k_4, k_5, k_6, k_7, k_8, k_9, k_10, k_11⟩ := cells12 (HX0.out W6 HB0_6.out)
                        rw [← HW6.out] at k_0 k_1 k_2 k_3 k_4 k_5 k_6 k_7 k_8 k_9 k_10 k_11
                        go_wp2_with fail
                        refine Calls.mono (order.take_is i a y d q p f 2 m r v g a3 3 i (a1 + a2) 0 HF.out ⟨HI.out.2.2, by simp [frame.inR], HF.out.1, by have := HI.out; simp only [frame.inR] at this ⊢; omega, rec.in0⟩ HT3.out _) ?_
                        rintro e7 W7 ⟨rfl, hb⟩
                        rw [HW6.out] at hb
                        have HB0_7 : Hid (Below W0.heap.size W0 W7) := Lib.hid (HB0_6.out.trans ((hb : Below W6.heap.size W6 W7).mono HB0_6.out.size))
                        have HB1_7 : Hid (Below W1.heap.size W1 W7) := Lib.hid (HB1_6.out.trans ((hb : Below W6.heap.size W6 W7).mono HB1_6.out.size))
                        have HB2_7 : Hid (Below W2.heap.size W2 W7) := Lib.hid (HB2_6.out.trans ((hb : Below W6.heap.size W6 W7).mono HB2_6.out.size))
                        have HB3_7 : Hid (Below W3.heap.size W3 W7) := Lib.hid (HB3_6.out.trans ((hb : Below W6.heap.size W6 W7).mono HB3_6.out.size))
                        have HB4_7 : Hid (Below W4.heap.size W4 W7) := Lib.hid (HB4_6.out.trans ((hb : Below W6.heap.size W6 W7).mono HB4_6.out.size))
                        have HB5_7 : Hid (Below W5.heap.size W5 W7) := Lib.hid (HB5_6.out.trans ((hb : Below W6.heap.size W6 W7).mono HB5_6.out.size))
                        have HB6_7 : Hid (Below W6.heap.size W6 W7) := Lib.hid (hb)
                        clear hb
                        clear k_0 k_1 k_2 k_3 k_4 k_5 k_6 k_7 k_8 k_9 k_10 k_11
                        obtain ⟨W8, HW8⟩ : ∃ W, Hid ((W7.alloc (.cells #[.int .i64 iB, .int .i64 aB, .int .i64 yB, .int .i64 dB, .int .i64 qB, .int .i64 pB, .int .i64 fB, .int .i64 phB, .int .i64 mB, .int .i64 rB, .int .i64 vB, .bool gB] 23)) = W) := ⟨_, Lib.hid rfl⟩
                        have HB0_8 : Hid (Below W0.heap.size W0 W8) := Lib.hid (HB0_7.out.trans ((by rw [← HW8.out]; exact (Below.refl _ _).alloc (Nat.le_refl _) _ : Below W7.heap.size W7 W8).mono HB0_7.out.size))
                        have HB1_8 : Hid (Below W1.heap.size W1 W8) := Lib.hid (HB1_7.out.trans ((by rw [← HW8.out]; exact (Below.refl _ _).alloc (Nat.le_refl _) _ : Below W7.heap.size W7 W8).mono HB1_7.out.size))
                        have HB2_8 : Hid (Below W2.heap.size W2 W8) := Lib.hid (HB2_7.out.trans ((by rw [← HW8.out]; exact (Below.refl _ _).alloc (Nat.le_refl _) _ : Below W7.heap.size W7 W8).mono HB2_7.out.size))
                        have HB3_8 : Hid (Below W3.heap.size W3 W8) := Lib.hid (HB3_7.out.trans ((by rw [← HW8.out]; exact (Below.refl _ _).alloc (Nat.le_refl _) _ : Below W7.heap.size W7 W8).mono HB3_7.out.size))
                        have HB4_8 : Hid (Below W4.heap.size W4 W8) := Lib.hid (HB4_7.out.trans ((by rw [← HW8.out]; exact (Below.refl _ _).alloc (Nat.le_refl _) _ : Below W7.heap.size W7 W8).mono HB4_7.out.size))
                        have HB5_8 : Hid (Below W5.heap.size W5 W8) := Lib.hid (HB5_7.out.trans ((by rw [← HW8.out]; exact (Below.refl _ _).alloc (Nat.le_refl _) _ : Below W7.heap.size W7 W8).mono HB5_7.out.size))
                        have HB6_8 : Hid (Below W6.heap.size W6 W8) := Lib.hid (HB6_7.out.trans ((by rw [← HW8.out]; exact (Below.refl _ _).alloc (Nat.le_refl _) _ : Below W7.heap.size W7 W8).mono HB6_7.out.size))
                        have HB7_8 : Hid (Below W7.heap.size W7 W8) := Lib.hid (by rw [← HW8.out]; exact (Below.refl _ _).alloc (Nat.le_refl _) _)
                        have HX_s : Hid (∀ W, Below W8.heap.size W8 W → W.heap[W7.heap.size]? = some (.cells #[.int .i64 iB, .int .i64 aB, .int .i64 yB, .int .i64 dB, .int .i64 qB, .int .i64 pB, .int .i64 fB, .int .i64 phB, .int .i64 mB, .int .i64 rB, .int .i64 vB, .bool gB] 23 (0, 0))) := Lib.hid (fun W hb => (hb.block _ (by rw [← HW8.out]; simp)).trans (by rw [← HW8.out]; exact heap_alloc_new _ _))
                        obtain ⟨q_0, q_1, q_2, q_3, q_4, q_5, q_6, q_7, q_8, q_9, q_10, q_11⟩ := cells12 (HX_q.out W8 HB6_8.out)
                        rw [← HW8.out] at q_0 q_1 q_2 q_3 q_4 q_5 q_6 q_7 q_8 q_9 q_10 q_11
                        go_wp2_with fail
                        go_ret
                        exact ⟨rfl, by rw [HW8.out]; exact HBW.out.trans (HB0_8.out.mono HBW.out.size)⟩
                    · have hp3 : (phA == 3) = false := by have := mt HPH.out.1 hfull; simpa using this
                      have hfb : (a1 == q - f) = false := by simpa using hfull
                      clear hfull
                      obtain ⟨k_0, k_1, k_2, k_3, k_4, k_5, k_6, k_7, k_8, k_9, k_10, k_11⟩ := cells12 (HX0.out W4 HB0_4.out)
                      rw [← HW4.out] at k_0 k_1 k_2 k_3 k_4 k_5 k_6 k_7 k_8 k_9 k_10 k_11
                      obtain ⟨⟨⟨iB, aB, yB, dB, qB, pB, fB, phB, mB, rB, vB, gB⟩, eB⟩, ht2⟩ : ∃ x, take ⟨i, aA, yA, dA, qA, pA, (f + a1), phA, mA, rA, vA, gA⟩ ⟨a3 + 1, 3, i, a2, 0⟩ = x := ⟨_, rfl⟩
                      have HT2 := Lib.hid ht2
                      have HFB : Hid ((⟨iB, aB, yB, dB, qB, pB, fB, phB, mB, rB, vB, gB⟩ : Or).fine) := Lib.hid (take_fine HFA.out ht2)
                      have hwa : IntKind.i64.wrap (a3 + 1) = a3 + 1 := IntWalk.i64_in _ (by omega)
                      have hwb : IntKind.i64.wrap (q - f - a1) = q - f - a1 := IntWalk.i64_in _ (by omega)
                      by_cases hb : q - f - a1 < a2
                      · obtain rfl : eB = 8 := by have := hover hb; rw [ht2] at this; exact this
                        clear hover hok ht2
                        go_wp2_with fail
                        refine Calls.mono (order.take_is i aA yA dA qA pA (f + a1) phA mA rA vA gA (a3 + 1) 3 i a2 0 HFA.out ⟨by have := HI.out.2.2; simp only [frame.inR] at this ⊢; omega, by simp [frame.inR], HF.out.1, HI.out.2.1, rec.in0⟩ HT2.out _) ?_
                        rintro e5 W5 ⟨rfl, hb⟩
                        rw [HW4.out] at hb
                        have HB0_5 : Hid (Below W0.heap.size W0 W5) := Lib.hid (HB0_4.out.trans ((hb : Below W4.heap.size W4 W5).mono HB0_4.out.size))
                        have HB1_5 : Hid (Below W1.heap.size W1 W5) := Lib.hid (HB1_4.out.trans ((hb : Below W4.heap.size W4 W5).mono HB1_4.out.size))
                        have HB2_5 : Hid (Below W2.heap.size W2 W5) := Lib.hid (HB2_4.out.trans ((hb : Below W4.heap.size W4 W5).mono HB2_4.out.size))
                        have HB3_5 : Hid (Below W3.heap.size W3 W5) := Lib.hid (HB3_4.out.trans ((hb : Below W4.heap.size W4 W5).mono HB3_4.out.size))
                        have HB4_5 : Hid (Below W4.heap.size W4 W5) := Lib.hid (hb)
                        clear hb
                        clear k_0 k_1 k_2 k_3 k_4 k_5 k_6 k_7 k_8 k_9 k_10 k_11
                        obtain ⟨W6, HW6⟩ : ∃ W, Hid ((W5.alloc (.cells #[.int .i64 iB, .int .i64 aB, .int .i64 yB, .int .i64 dB, .int .i64 qB, .int .i64 pB, .int .i64 fB, .int .i64 phB, .int .i64 mB, .int .i64 rB, .int .i64 vB, .bool gB] 23)) = W) := ⟨_, Lib.hid rfl⟩
                        have HB0_6 : Hid (Below W0.heap.size W0 W6) := Lib.hid (HB0_5.out.trans ((by rw [← HW6.out]; exact (Below.refl _ _).alloc (Nat.le_refl _) _ : Below W5.heap.size W5 W6).mono HB0_5.out.size))
                        have HB1_6 : Hid (Below W1.heap.size W1 W6) := Lib.hid (HB1_5.out.trans ((by rw [← HW6.out]; exact (Below.refl _ _).alloc (Nat.le_refl _) _ : Below W5.heap.size W5 W6).mono HB1_5.out.size))
                        have HB2_6 : Hid (Below W2.heap.size W2 W6) := Lib.hid (HB2_5.out.trans ((by rw [← HW6.out]; exact (Below.refl _ _).alloc (Nat.le_refl _) _ : Below W5.heap.size W5 W6).mono HB2_5.out.size))
                        have HB3_6 : Hid (Below W3.heap.size W3 W6) := Lib.hid (HB3_5.out.trans ((by rw [← HW6.out]; exact (Below.refl _ _).alloc (Nat.le_refl _) _ : Below W5.heap.size W5 W6).mono HB3_5.out.size))
                        have HB4_6 : Hid (Below W4.heap.size W4 W6) := Lib.hid (HB4_5.out.trans ((by rw [← HW6.out]; exact (Below.refl _ _).alloc (Nat.le_refl _) _ : Below W5.heap.size W5 W6).mono HB4_5.out.size))
                        have HB5_6 : Hid (Below W5.heap.size W5 W6) := Lib.hid (by rw [← HW6.out]; exact (Below.refl _ _).alloc (Nat.le_refl _) _)
                        have HX_q : Hid (∀ W, Below W6.heap.size W6 W → W.heap[W5.heap.size]? = some (.cells #[.int .i64 iB, .int .i64 aB, .int .i64 yB, .int .i64 dB, .int .i64 qB, .int .i64 pB, .int .i64 fB, .int .i64 phB, .int .i64 mB, .int .i64 rB, .int .i64 vB, .bool gB] 23 (0, 0))) := Lib.hid (fun W hb => (hb.block _ (by rw [← HW6.out]; simp)).trans (by rw [← HW6.out]; exact heap_alloc_new _ _))
                        obtain ⟨k_0, k_1, k_2, k_3, k_4, k_5, k_6, k_7, k_8, k_9, k_10, k_11⟩ := cells12 (HX0.out W6 HB0_6.out)
                        rw [← HW6.out] at k_0 k_1 k_2 k_3 k_4 k_5 k_6 k_7 k_8 k_9 k_10 k_11
                        go_wp2_with fail
                        go_ret
                        exact ⟨rfl, by rw [HW6.out]; exact HBW.out.trans (HB0_6.out.mono HBW.out.size)⟩
                      · have hb' : a2 ≤ q - f - a1 := by omega
                        have hok' := hok hb'
                        rw [ht2] at hok'
                        obtain ⟨hk1, hk2⟩ := hok'
                        obtain ⟨⟨⟨iC, aC, yC, dC, qC, pC, fC, phC, mC, rC, vC, gC⟩, eC⟩, ht3⟩ : ∃ x, take ⟨i, a, y, d, q, p, f, 2, m, r, v, g⟩ ⟨a3, 3, i, a1 + a2, 0⟩ = x := ⟨_, rfl⟩
                        rw [ht3] at hk1 hk2
                        simp only [Prod.mk.injEq, Or.mk.injEq] at hk1 hk2
                        obtain ⟨⟨rfl, rfl, rfl, rfl, rfl, rfl, rfl, rfl, rfl, rfl, rfl, rfl⟩, rfl⟩ := hk1
                        obtain rfl : eC = 0 := hk2
                        have HT3 := Lib.hid ht3
                        clear hover hok ht2 ht3
                        have hwc : IntKind.i64.wrap (a1 + a2) = a1 + a2 := IntWalk.i64_in _ (by omega)
                        have heq : ∀ W, (Op.equalIn 10000 23 (.agg #[.int .i64 iB, .int .i64 aB, .int .i64 yB, .int .i64 dB, .int .i64 qB, .int .i64 pB, .int .i64 fB, .int .i64 phB, .int .i64 mB, .int .i64 rB, .int .i64 vB, .bool gB]) (.agg #[.int .i64 iB, .int .i64 aB, .int .i64 yB, .int .i64 dB, .int .i64 qB, .int .i64 pB, .int .i64 fB, .int .i64 phB, .int .i64 mB, .int .i64 rB, .int .i64 vB, .bool gB])).run Try.prog W = .ok true W := fun W => eq12_of rfl rfl HFB.out HFB.out (decide_eq_true rfl) W
                        go_wp2_with fail
                        refine Calls.mono (order.take_is i aA yA dA qA pA (f + a1) phA mA rA vA gA (a3 + 1) 3 i a2 0 HFA.out ⟨by have := HI.out.2.2; simp only [frame.inR] at this ⊢; omega, by simp [frame.inR], HF.out.1, HI.out.2.1, rec.in0⟩ HT2.out _) ?_
                        rintro e5 W5 ⟨rfl, hb⟩
                        rw [HW4.out] at hb
                        have HB0_5 : Hid (Below W0.heap.size W0 W5) := Lib.hid (HB0_4.out.trans ((hb : Below W4.heap.size W4 W5).mono HB0_4.out.size))
                        have HB1_5 : Hid (Below W1.heap.size W1 W5) := Lib.hid (HB1_4.out.trans ((hb : Below W4.heap.size W4 W5).mono HB1_4.out.size))
                        have HB2_5 : Hid (Below W2.heap.size W2 W5) := Lib.hid (HB2_4.out.trans ((hb : Below W4.heap.size W4 W5).mono HB2_4.out.size))
                        have HB3_5 : Hid (Below W3.heap.size W3 W5) := Lib.hid (HB3_4.out.trans ((hb : Below W4.heap.size W4 W5).mono HB3_4.out.size))
                        have HB4_5 : Hid (Below W4.heap.size W4 W5) := Lib.hid (hb)
                        clear hb
                        clear k_0 k_1 k_2 k_3 k_4 k_5 k_6 k_7 k_8 k_9 k_10 k_11
                        obtain ⟨W6, HW6⟩ : ∃ W, Hid ((W5.alloc (.cells #[.int .i64 iB, .int .i64 aB, .int .i64 yB, .int .i64 dB, .int .i64 qB, .int .i64 pB, .int .i64 fB, .int .i64 phB, .int .i64 mB, .int .i64 rB, .int .i64 vB, .bool gB] 23)) = W) := ⟨_, Lib.hid rfl⟩
                        have HB0_6 : Hid (Below W0.heap.size W0 W6) := Lib.hid (HB0_5.out.trans ((by rw [← HW6.out]; exact (Below.refl _ _).alloc (Nat.le_refl _) _ : Below W5.heap.size W5 W6).mono HB0_5.out.size))
                        have HB1_6 : Hid (Below W1.heap.size W1 W6) := Lib.hid (HB1_5.out.trans ((by rw [← HW6.out]; exact (Below.refl _ _).alloc (Nat.le_refl _) _ : Below W5.heap.size W5 W6).mono HB1_5.out.size))
                        have HB2_6 : Hid (Below W2.heap.size W2 W6) := Lib.hid (HB2_5.out.trans ((by rw [← HW6.out]; exact (Below.refl _ _).alloc (Nat.le_refl _) _ : Below W5.heap.size W5 W6).mono HB2_5.out.size))
                        have HB3_6 : Hid (Below W3.heap.size W3 W6) := Lib.hid (HB3_5.out.trans ((by rw [← HW6.out]; exact (Below.refl _ _).alloc (Nat.le_refl _) _ : Below W5.heap.size W5 W6).mono HB3_5.out.size))
                        have HB4_6 : Hid (Below W4.heap.size W4 W6) := Lib.hid (HB4_5.out.trans ((by rw [← HW6.out]; exact (Below.refl _ _).alloc (Nat.le_refl _) _ : Below W5.heap.size W5 W6).mono HB4_5.out.size))
                        have HB5_6 : Hid (Below W5.heap.size W5 W6) := Lib.hid (by rw [← HW6.out]; exact (Below.refl _ _).alloc (Nat.le_refl _) _)
                        have HX_q : Hid (∀ W, Below W6.heap.size W6 W → W.heap[W5.heap.size]? = some (.cells #[.int .i64 iB, .int .i64 aB, .int .i64 yB, .int .i64 dB, .int .i64 qB, .int .i64 pB, .int .i64 fB, .int .i64 phB, .int .i64 mB, .int .i64 rB, .int .i64 vB, .bool gB] 23 (0, 0))) := Lib.hid (fun W hb => (hb.block _ (by rw [← HW6.out]; simp)).trans (by rw [← HW6.out]; exact heap_alloc_new _ _))
                        obtain ⟨k_0, k_1, k_2, k_3, k_4, k_5, k_6, k_7, k_8, k_9, k_10, k_11⟩ := cells12 (HX0.out W6 HB0_6.out)
                        rw [← HW6.out] at k_0 k_1 k_2 k_3 k_4 k_5 k_6 k_7 k_8 k_9 k_10 k_11
                        go_wp2_with fail
                        refine Calls.mono (order.take_is i a y d q p f 2 m r v g a3 3 i (a1 + a2) 0 HF.out ⟨HI.out.2.2, by simp [frame.inR], HF.out.1, by have := HI.out; simp only [frame.inR] at this ⊢; omega, rec.in0⟩ HT3.out _) ?_
                        rintro e7 W7 ⟨rfl, hb⟩
                        rw [HW6.out] at hb
                        have HB0_7 : Hid (Below W0.heap.size W0 W7) := Lib.hid (HB0_6.out.trans ((hb : Below W6.heap.size W6 W7).mono HB0_6.out.size))
                        have HB1_7 : Hid (Below W1.heap.size W1 W7) := Lib.hid (HB1_6.out.trans ((hb : Below W6.heap.size W6 W7).mono HB1_6.out.size))
                        have HB2_7 : Hid (Below W2.heap.size W2 W7) := Lib.hid (HB2_6.out.trans ((hb : Below W6.heap.size W6 W7).mono HB2_6.out.size))
                        have HB3_7 : Hid (Below W3.heap.size W3 W7) := Lib.hid (HB3_6.out.trans ((hb : Below W6.heap.size W6 W7).mono HB3_6.out.size))
                        have HB4_7 : Hid (Below W4.heap.size W4 W7) := Lib.hid (HB4_6.out.trans ((hb : Below W6.heap.size W6 W7).mono HB4_6.out.size))
                        have HB5_7 : Hid (Below W5.heap.size W5 W7) := Lib.hid (HB5_6.out.trans ((hb : Below W6.heap.size W6 W7).mono HB5_6.out.size))
                        have HB6_7 : Hid (Below W6.heap.size W6 W7) := Lib.hid (hb)
                        clear hb
                        clear k_0 k_1 k_2 k_3 k_4 k_5 k_6 k_7 k_8 k_9 k_10 k_11
                        obtain ⟨W8, HW8⟩ : ∃ W, Hid ((W7.alloc (.cells #[.int .i64 iB, .int .i64 aB, .int .i64 yB, .int .i64 dB, .int .i64 qB, .int .i64 pB, .int .i64 fB, .int .i64 phB, .int .i64 mB, .int .i64 rB, .int .i64 vB, .bool gB] 23)) = W) := ⟨_, Lib.hid rfl⟩
                        have HB0_8 : Hid (Below W0.heap.size W0 W8) := Lib.hid (HB0_7.out.trans ((by rw [← HW8.out]; exact (Below.refl _ _).alloc (Nat.le_refl _) _ : Below W7.heap.size W7 W8).mono HB0_7.out.size))
                        have HB1_8 : Hid (Below W1.heap.size W1 W8) := Lib.hid (HB1_7.out.trans ((by rw [← HW8.out]; exact (Below.refl _ _).alloc (Nat.le_refl _) _ : Below W7.heap.size W7 W8).mono HB1_7.out.size))
                        have HB2_8 : Hid (Below W2.heap.size W2 W8) := Lib.hid (HB2_7.out.trans ((by rw [← HW8.out]; exact (Below.refl _ _).alloc (Nat.le_refl _) _ : Below W7.heap.size W7 W8).mono HB2_7.out.size))
                        have HB3_8 : Hid (Below W3.heap.size W3 W8) := Lib.hid (HB3_7.out.trans ((by rw [← HW8.out]; exact (Below.refl _ _).alloc (Nat.le_refl _) _ : Below W7.heap.size W7 W8).mono HB3_7.out.size))
                        have HB4_8 : Hid (Below W4.heap.size W4 W8) := Lib.hid (HB4_7.out.trans ((by rw [← HW8.out]; exact (Below.refl _ _).alloc (Nat.le_refl _) _ : Below W7.heap.size W7 W8).mono HB4_7.out.size))
                        have HB5_8 : Hid (Below W5.heap.size W5 W8) := Lib.hid (HB5_7.out.trans ((by rw [← HW8.out]; exact (Below.refl _ _).alloc (Nat.le_refl _) _ : Below W7.heap.size W7 W8).mono HB5_7.out.size))
                        have HB6_8 : Hid (Below W6.heap.size W6 W8) := Lib.hid (HB6_7.out.trans ((by rw [← HW8.out]; exact (Below.refl _ _).alloc (Nat.le_refl _) _ : Below W7.heap.size W7 W8).mono HB6_7.out.size))
                        have HB7_8 : Hid (Below W7.heap.size W7 W8) := Lib.hid (by rw [← HW8.out]; exact (Below.refl _ _).alloc (Nat.le_refl _) _)
                        have HX_s : Hid (∀ W, Below W8.heap.size W8 W → W.heap[W7.heap.size]? = some (.cells #[.int .i64 iB, .int .i64 aB, .int .i64 yB, .int .i64 dB, .int .i64 qB, .int .i64 pB, .int .i64 fB, .int .i64 phB, .int .i64 mB, .int .i64 rB, .int .i64 vB, .bool gB] 23 (0, 0))) := Lib.hid (fun W hb => (hb.block _ (by rw [← HW8.out]; simp)).trans (by rw [← HW8.out]; exact heap_alloc_new _ _))
                        obtain ⟨q_0, q_1, q_2, q_3, q_4, q_5, q_6, q_7, q_8, q_9, q_10, q_11⟩ := cells12 (HX_q.out W8 HB6_8.out)
                        rw [← HW8.out] at q_0 q_1 q_2 q_3 q_4 q_5 q_6 q_7 q_8 q_9 q_10 q_11
                        go_wp2_with fail
                        go_ret
                        exact ⟨rfl, by rw [HW8.out]; exact HBW.out.trans (HB0_8.out.mono HBW.out.size)⟩
    · have hp' : (ph != 2) = true := by simpa using hp
      have hp'' : (ph == 2) = false := by simpa using hp
      clear hp
      go_wp2_with fail
      go_ret
      exact ⟨rfl, HBW.out.trans (HB0_2.out.mono HBW.out.size)⟩
  -- WALK ENDS

set_option maxRecDepth 100000 in
theorem lifted (os : Os) (started : os.Started) (H : Type) (enc : TypeId × Value → H) :
    ReturnsInHanded {} Try.checked os 5 .any (Rows.orderFillsSpec.pre6 enc Try.prog Try.f5 Rows.orderFillsRow.domain false) (Rows.orderFillsSpec.post enc Try.prog Try.f5 false true false false) := by
  refine returnsInHanded_of_change (C := Try.checked) own started (by kernel_rfl) Try.func5
    (ChangeSpec.witness6 (enc := enc) (C := Try.checked) false ⟨#[], #[.agg #[.int .i64 0, .int .i64 0, .int .i64 0, .int .i64 0, .int .i64 0, .int .i64 0, .int .i64 0, .int .i64 0, .int .i64 0, .int .i64 0, .int .i64 0, .bool false], .int .i64 0, .int .i64 0, .int .i64 0], []⟩ 8 (by kernel_rfl) (by kernel_rfl) (by kernel_rfl) (by kernel_rfl)) ?_
  intro W base args ds gs before hval0 hW hcnd _
  have hval : ∀ (j : Nat) t v, Try.f5.params[j]? = some t → args[j]? = some v → Value.okWide Try.prog W .any base t v := hval0
  have hW' := hW
  obtain ⟨p, q, hA0, hV, rfl, hfz, hnd⟩ := hW
  have hA : DataW.TrodAll enc Try.prog W 0 (fun _ => true) true Try.f5.params.toList args.toList ds p := hA0
  rw [Try.params5] at hA hval
  obtain ⟨v0, vs0, d0, ds0, p0_, q0, hargs, rfl, rfl, h0, r0⟩ := trodAll_cons hA
  obtain ⟨v1, vs1, d1, ds1, p1_, q1, rfl, rfl, rfl, h1, r1⟩ := trodAll_cons r0
  obtain ⟨v2, vs2, d2, ds2, p2_, q2, rfl, rfl, rfl, h2, r2⟩ := trodAll_cons r1
  obtain ⟨v3, vs3, d3, ds3, p3_, q3, rfl, rfl, rfl, h3, r3⟩ := trodAll_cons r2
  obtain ⟨rfl, rfl, rfl⟩ := trodAll_nil r3
  obtain rfl : args = #[v0, v1, v2, v3] := by cases args; simp_all
  obtain ⟨rfl, rfl⟩ := trodVars_none hV
  obtain ⟨cs0, rfl, hsz0⟩ := okWide_struct Try.underlying23 (hval 0 23 v0 rfl rfl)
  have k0 := h0
  have lt0 : ∀ x ∈ p0_, x.block < W.heap.size := by obtain ⟨m, hm⟩ := k0; exact DataW.trod_lt m _ _ _ hm
  obtain ⟨x0, w0⟩ := of_arg of_order k0
  obtain ⟨a1, rfl, rfl, rfl, w1⟩ := open_int Try.underlying2 (hval 1 2 v1 rfl rfl) h1
  obtain ⟨a2, rfl, rfl, rfl, w2⟩ := open_int Try.underlying2 (hval 2 2 v2 rfl rfl) h2
  obtain ⟨a3, rfl, rfl, rfl, w3⟩ := open_int Try.underlying2 (hval 3 2 v3 rfl rfl) h3
  clear hA0 hval0
  refine (walk cs0 x0 a1 a2 a3 W w0 w1 w2 w3).mono fun e W' ⟨he, bel⟩ => ?_
  subst he
  exact ⟨_, rfl, _, _, _, [], _, [], hW', trodAll_mk1 (shut_bool Try.underlying4 _), (trodAll_cons_mk (Below.trod laidOut (by kernel_rfl) (of_decide_eq_true (by kernel_rfl)) k0 bel lt0) (trodAll_cons_mk (shut_int Try.underlying2 w1) (trodAll_cons_mk (shut_int Try.underlying2 w2) (trodAll_cons_mk (shut_int Try.underlying2 w3) trodAll_mk0)))), rfl, bel.frame _, fun h => by cases h⟩

theorem over : Rows.orderFillsRow.holds Try.pinned (OpenSpec.ofChange Rows.orderFillsSpec) :=
  OpenClaim.holds_of_wide 5 Try.f5 rfl rfl rfl rfl rfl rfl rfl ⟨rfl, rfl, rfl, rfl, rfl⟩ rfl rfl rfl rfl rfl (by kernel_rfl) Try.func5 (by kernel_rfl)
    (of_decide_eq_true (by kernel_rfl)) (by unfold Func.isWrapper; first | (rw [if_pos (by decide +kernel)]; kernel_rfl) | (rw [if_neg (by decide +kernel)]; exact ⟨rfl, rfl⟩))
    (fun os started H enc _ => lifted os started H enc)

theorem proved : Rows.OrderFillsSaid := over
#print axioms proved
end Go.Proofs.Ytfnapckjccjjjaa.orderFills
