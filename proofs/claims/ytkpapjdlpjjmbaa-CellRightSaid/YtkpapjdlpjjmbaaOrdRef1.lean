/-
  The contract of the document's own answer for layer 7: Right.
-/
import Derived.Test.YtkpapjdlpjjmbaaOrdEq
import Derived.Test.YtkpapjdlpjjmbaaRecRef
namespace Go.Proofs.Ytkpapjdlpjjmbaa.order
open Go.RowKit Go.Proofs.Ytkpapjdlpjjmbaa
set_option linter.unusedVariables false
set_option linter.unusedSimpArgs false
set_option maxRecDepth 20000
set_option maxHeartbeats 8000000

theorem rec_new (i a y d q p : Int) : rec.right ⟨1, i, a, y, d, q, p, 0, 0, 0, false, 0, 0⟩ = true ↔ (1 ≤ i ∧ i ≤ 1000000000000 ∧ 0 ≤ a ∧ a < 8 ∧ 0 ≤ y ∧ y < 8 ∧ 1 ≤ d ∧ d ≤ 2 ∧ 1 ≤ q ∧ 1 ≤ p) := by
  unfold rec.right rec.may
  simp [rec.rd, rec.nums, rec.mayOrder, rec.mayAcc, rec.mayAsk]
  omega

theorem rright_is (i a y d q p f ph m r v : Int) (g : Bool) {b : Bool} (hf : (⟨i, a, y, d, q, p, f, ph, m, r, v, g⟩ : Or).fine) (h : right ⟨i, a, y, d, q, p, f, ph, m, r, v, g⟩ = b) (w : World) : Calls Try.prog 36 #[.agg #[.int .i64 i, .int .i64 a, .int .i64 y, .int .i64 d, .int .i64 q, .int .i64 p, .int .i64 f, .int .i64 ph, .int .i64 m, .int .i64 r, .int .i64 v, .bool g]] w fun e w' => e = .returned (.bool b) ∧ Below w.heap.size w w' := by
  obtain ⟨W0, HW0⟩ : ∃ W, Hid ((w.alloc (.cells #[.int .i64 i, .int .i64 a, .int .i64 y, .int .i64 d, .int .i64 q, .int .i64 p, .int .i64 f, .int .i64 ph, .int .i64 m, .int .i64 r, .int .i64 v, .bool g] 25)) = W) := ⟨_, Lib.hid rfl⟩
  have HBW : Hid (Below w.heap.size w W0) := Lib.hid (by rw [← HW0.out]; exact (Below.refl _ _).alloc (by simp) _)
  have HX0 : Hid (∀ W, Below W0.heap.size W0 W → W.heap[w.heap.size]? = some (.cells #[.int .i64 i, .int .i64 a, .int .i64 y, .int .i64 d, .int .i64 q, .int .i64 p, .int .i64 f, .int .i64 ph, .int .i64 m, .int .i64 r, .int .i64 v, .bool g] 25 (0, 0))) := Lib.hid (fun W hb => (hb.block _ (by rw [← HW0.out]; simp; try omega)).trans (by rw [← HW0.out]; have := heap_alloc_new w (.cells #[.int .i64 i, .int .i64 a, .int .i64 y, .int .i64 d, .int .i64 q, .int .i64 p, .int .i64 f, .int .i64 ph, .int .i64 m, .int .i64 r, .int .i64 v, .bool g] 25); exact this))
  have HF : Hid ((⟨1, i, a, y, d, q, p, 0, 0, 0, false, 0, 0⟩ : rec.Rc).fine) := Lib.hid (by obtain ⟨f1, f2, f3, f4, f5, f6, _⟩ := hf; exact ⟨rec.in1, f1, f2, f3, f4, f5, f6, rec.in0, rec.in0, rec.in0, rec.in0, rec.in0⟩)
  obtain ⟨c, hc⟩ : ∃ x, rec.right ⟨1, i, a, y, d, q, p, 0, 0, 0, false, 0, 0⟩ = x := ⟨_, rfl⟩
  have HC := Lib.hid hc
  have HX : Hid (c = true ↔ (1 ≤ i ∧ i ≤ 1000000000000 ∧ 0 ≤ a ∧ a < 8 ∧ 0 ≤ y ∧ y < 8 ∧ 1 ≤ d ∧ d ≤ 2 ∧ 1 ≤ q ∧ 1 ≤ p)) := Lib.hid (by rw [← hc]; exact rec_new i a y d q p)
  have HH := Lib.hid h
  clear h hc hf
  go_enter Try.func36, Try.ntmps36
  go_wp2_with fail
  refine Calls.mono (rec.rright_is 1 i a y d q p 0 0 0 false 0 0 HF.out HC.out _) ?_
  rintro e1 W1 ⟨rfl, hb⟩
  rw [HW0.out] at hb
  have HB0_1 : Hid (Below W0.heap.size W0 W1) := Lib.hid (hb)
  clear hb
  obtain ⟨k_0, k_1, k_2, k_3, k_4, k_5, k_6, k_7, k_8, k_9, k_10, k_11⟩ := cells12 (HX0.out W1 HB0_1.out)
  rcases c with _ | _
  · have hx := HX.out
    simp only [reduceCtorEq, false_iff, true_iff] at hx
    have hv : false = b := by rw [← HH.out]; exact (right_no.2 (by unfold Rightly; simp only [true_and, and_true, true_or, or_true]; omega)).symm
    subst hv
    clear hx HH HX HC
    go_wp2_with fail
    go_ret
    exact ⟨rec.retB (by first | rfl | (simp; omega)), HBW.out.trans (HB0_1.out.mono HBW.out.size)⟩
  · by_cases hf1 : f < 0
    · have hx := HX.out
      simp only [reduceCtorEq, false_iff, true_iff] at hx
      have hv : false = b := by rw [← HH.out]; exact (right_no.2 (by unfold Rightly; simp only [true_and, and_true, true_or, or_true]; omega)).symm
      subst hv
      clear hx HH HX HC
      go_wp2_with fail
      go_ret
      exact ⟨rec.retB (by first | rfl | (simp; omega)), HBW.out.trans (HB0_1.out.mono HBW.out.size)⟩
    · have hf1' : 0 ≤ f := by omega
      by_cases hf2 : q < f
      · have hx := HX.out
        simp only [reduceCtorEq, false_iff, true_iff] at hx
        have hv : false = b := by rw [← HH.out]; exact (right_no.2 (by unfold Rightly; simp only [true_and, and_true, true_or, or_true]; omega)).symm
        subst hv
        clear hx HH HX HC
        go_wp2_with fail
        go_ret
        exact ⟨rec.retB (by first | rfl | (simp; omega)), HBW.out.trans (HB0_1.out.mono HBW.out.size)⟩
      · have hf2' : f ≤ q := by omega
        by_cases hv1 : v < 0
        · have hx := HX.out
          simp only [reduceCtorEq, false_iff, true_iff] at hx
          have hv : false = b := by rw [← HH.out]; exact (right_no.2 (by unfold Rightly; simp only [true_and, and_true, true_or, or_true]; omega)).symm
          subst hv
          clear hx HH HX HC
          go_wp2_with fail
          go_ret
          exact ⟨rec.retB (by first | rfl | (simp; omega)), HBW.out.trans (HB0_1.out.mono HBW.out.size)⟩
        · have hv1' : 0 ≤ v := by omega
          by_cases hm : m = 0
          · subst hm
            by_cases hr : r = 0
            · subst hr
              by_cases h1 : ph = 1
              · subst h1
                by_cases hf0 : f = 0
                · subst hf0
                  by_cases hv0 : v = 0
                  · subst hv0
                    have hx := HX.out
                    simp only [reduceCtorEq, false_iff, true_iff] at hx
                    have hv : true = b := by rw [← HH.out]; exact (right_iff.2 (by unfold Rightly; simp only [true_and, and_true, true_or, or_true]; omega)).symm
                    subst hv
                    clear hx HH HX HC
                    go_wp2_with fail
                    go_ret
                    exact ⟨rec.retB (by first | rfl | (simp; omega)), HBW.out.trans (HB0_1.out.mono HBW.out.size)⟩
                  · have hv0' : (v == 0) = false := by simpa using hv0
                    have hx := HX.out
                    simp only [reduceCtorEq, false_iff, true_iff] at hx
                    have hv : false = b := by rw [← HH.out]; exact (right_no.2 (by unfold Rightly; simp only [true_and, and_true, true_or, or_true]; omega)).symm
                    subst hv
                    clear hx HH HX HC
                    go_wp2_with fail
                    go_ret
                    exact ⟨rec.retB (by first | rfl | (simp; omega)), HBW.out.trans (HB0_1.out.mono HBW.out.size)⟩
                · have hf0' : (f == 0) = false := by simpa using hf0
                  have hx := HX.out
                  simp only [reduceCtorEq, false_iff, true_iff] at hx
                  have hv : false = b := by rw [← HH.out]; exact (right_no.2 (by unfold Rightly; simp only [true_and, and_true, true_or, or_true]; omega)).symm
                  subst hv
                  clear hx HH HX HC
                  go_wp2_with fail
                  go_ret
                  exact ⟨rec.retB (by first | rfl | (simp; omega)), HBW.out.trans (HB0_1.out.mono HBW.out.size)⟩
              · have h1' : (ph == 1) = false := by simpa using h1
                by_cases h2 : ph = 2
                · subst h2
                  by_cases hfq : f = q
                  · have hfq' : (f != q) = false := by simpa using hfq
                    have hfq'' : (f == q) = true := by simpa using hfq
                    have hx := HX.out
                    simp only [reduceCtorEq, false_iff, true_iff] at hx
                    have hv : false = b := by rw [← HH.out]; exact (right_no.2 (by unfold Rightly; simp only [true_and, and_true, true_or, or_true]; omega)).symm
                    subst hv
                    clear hx HH HX HC
                    go_wp2_with fail
                    go_ret
                    exact ⟨rec.retB (by first | rfl | (simp; omega)), HBW.out.trans (HB0_1.out.mono HBW.out.size)⟩
                  · have hfq' : (f != q) = true := by simpa using hfq
                    have hfq'' : (f == q) = false := by simpa using hfq
                    have hx := HX.out
                    simp only [reduceCtorEq, false_iff, true_iff] at hx
                    have hv : true = b := by rw [← HH.out]; exact (right_iff.2 (by unfold Rightly; simp only [true_and, and_true, true_or, or_true]; omega)).symm
                    subst hv
                    clear hx HH HX HC
                    go_wp2_with fail
                    go_ret
                    exact ⟨rec.retB (by first | rfl | (simp; omega)), HBW.out.trans (HB0_1.out.mono HBW.out.size)⟩
                · have h2' : (ph == 2) = false := by simpa using h2
                  by_cases h3 : ph = 3
                  · subst h3
                    have hx := HX.out
                    simp only [reduceCtorEq, false_iff, true_iff] at hx
                    have hv : true = b := by rw [← HH.out]; exact (right_iff.2 (by unfold Rightly; simp only [true_and, and_true, true_or, or_true]; omega)).symm
                    subst hv
                    clear hx HH HX HC
                    go_wp2_with fail
                    go_ret
                    exact ⟨rec.retB (by first | rfl | (simp; omega)), HBW.out.trans (HB0_1.out.mono HBW.out.size)⟩
                  · have h3' : (ph == 3) = false := by simpa using h3
                    have hx := HX.out
                    simp only [reduceCtorEq, false_iff, true_iff] at hx
                    have hv : false = b := by rw [← HH.out]; exact (right_no.2 (by unfold Rightly; simp only [true_and, and_true, true_or, or_true]; omega)).symm
                    subst hv
                    clear hx HH HX HC
                    go_wp2_with fail
                    go_ret
                    exact ⟨rec.retB (by first | rfl | (simp; omega)), HBW.out.trans (HB0_1.out.mono HBW.out.size)⟩
            · have hr' : (r == 0) = false := by simpa using hr
              have hx := HX.out
              simp only [reduceCtorEq, false_iff, true_iff] at hx
              have hv : false = b := by rw [← HH.out]; exact (right_no.2 (by unfold Rightly; simp only [true_and, and_true, true_or, or_true]; omega)).symm
              subst hv
              clear hx HH HX HC
              go_wp2_with fail
              go_ret
              exact ⟨rec.retB (by first | rfl | (simp; omega)), HBW.out.trans (HB0_1.out.mono HBW.out.size)⟩
          · have hm' : (m == 0) = false := by simpa using hm
            by_cases hm1 : m < 1
            · have hx := HX.out
              simp only [reduceCtorEq, false_iff, true_iff] at hx
              have hv : false = b := by rw [← HH.out]; exact (right_no.2 (by unfold Rightly; simp only [true_and, and_true, true_or, or_true]; omega)).symm
              subst hv
              clear hx HH HX HC
              go_wp2_with fail
              go_ret
              exact ⟨rec.retB (by first | rfl | (simp; omega)), HBW.out.trans (HB0_1.out.mono HBW.out.size)⟩
            · have hm1' : 1 ≤ m := by omega
              by_cases hr1 : r < 1
              · have hx := HX.out
                simp only [reduceCtorEq, false_iff, true_iff] at hx
                have hv : false = b := by rw [← HH.out]; exact (right_no.2 (by unfold Rightly; simp only [true_and, and_true, true_or, or_true]; omega)).symm
                subst hv
                clear hx HH HX HC
                go_wp2_with fail
                go_ret
                exact ⟨rec.retB (by first | rfl | (simp; omega)), HBW.out.trans (HB0_1.out.mono HBW.out.size)⟩
              · have hr1' : 1 ≤ r := by omega
                by_cases h1 : ph = 1
                · subst h1
                  have hx := HX.out
                  simp only [reduceCtorEq, false_iff, true_iff] at hx
                  have hv : false = b := by rw [← HH.out]; exact (right_no.2 (by unfold Rightly; simp only [true_and, and_true, true_or, or_true]; omega)).symm
                  subst hv
                  clear hx HH HX HC
                  go_wp2_with fail
                  go_ret
                  exact ⟨rec.retB (by first | rfl | (simp; omega)), HBW.out.trans (HB0_1.out.mono HBW.out.size)⟩
                · have h1' : (ph == 1) = false := by simpa using h1
                  by_cases h2 : ph = 2
                  · subst h2
                    by_cases hfq : f = q
                    · have hfq' : (f != q) = false := by simpa using hfq
                      have hfq'' : (f == q) = true := by simpa using hfq
                      have hx := HX.out
                      simp only [reduceCtorEq, false_iff, true_iff] at hx
                      have hv : false = b := by rw [← HH.out]; exact (right_no.2 (by unfold Rightly; simp only [true_and, and_true, true_or, or_true]; omega)).symm
                      subst hv
                      clear hx HH HX HC
                      go_wp2_with fail
                      go_ret
                      exact ⟨rec.retB (by first | rfl | (simp; omega)), HBW.out.trans (HB0_1.out.mono HBW.out.size)⟩
                    · have hfq' : (f != q) = true := by simpa using hfq
                      have hfq'' : (f == q) = false := by simpa using hfq
                      have hx := HX.out
                      simp only [reduceCtorEq, false_iff, true_iff] at hx
                      have hv : true = b := by rw [← HH.out]; exact (right_iff.2 (by unfold Rightly; simp only [true_and, and_true, true_or, or_true]; omega)).symm
                      subst hv
                      clear hx HH HX HC
                      go_wp2_with fail
                      go_ret
                      exact ⟨rec.retB (by first | rfl | (simp; omega)), HBW.out.trans (HB0_1.out.mono HBW.out.size)⟩
                  · have h2' : (ph == 2) = false := by simpa using h2
                    by_cases h3 : ph = 3
                    · subst h3
                      have hx := HX.out
                      simp only [reduceCtorEq, false_iff, true_iff] at hx
                      have hv : false = b := by rw [← HH.out]; exact (right_no.2 (by unfold Rightly; simp only [true_and, and_true, true_or, or_true]; omega)).symm
                      subst hv
                      clear hx HH HX HC
                      go_wp2_with fail
                      go_ret
                      exact ⟨rec.retB (by first | rfl | (simp; omega)), HBW.out.trans (HB0_1.out.mono HBW.out.size)⟩
                    · have h3' : (ph == 3) = false := by simpa using h3
                      have hx := HX.out
                      simp only [reduceCtorEq, false_iff, true_iff] at hx
                      have hv : false = b := by rw [← HH.out]; exact (right_no.2 (by unfold Rightly; simp only [true_and, and_true, true_or, or_true]; omega)).symm
                      subst hv
                      clear hx HH HX HC
                      go_wp2_with fail
                      go_ret
                      exact ⟨rec.retB (by first | rfl | (simp; omega)), HBW.out.trans (HB0_1.out.mono HBW.out.size)⟩

end Go.Proofs.Ytkpapjdlpjjmbaa.order
