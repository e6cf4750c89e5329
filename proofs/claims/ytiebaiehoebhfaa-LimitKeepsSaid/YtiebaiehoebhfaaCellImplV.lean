/-
  The contract of the landed cell's Covers.
-/
import Derived.Test.YtiebaiehoebhfaaCellEq
import Derived.Test.YtiebaiehoebhfaaRet
import Derived.Test.YtiebaiehoebhfaaWhole
import Derived.Deep.DeepCutAuto
import Derived.Deep.DrawnRows
import Derived.Deep.RegionHeld
namespace Go.Proofs.Ytiebaiehoebhfaa.cell
open Go.RowKit Go.Proofs.Ytiebaiehoebhfaa
open Go.Proofs.Ytiebaiehoebhfaa.order (eq_cases)
attribute [local go_sem] undef
attribute [local go_sem ↓] Go.wp_at_zero Go.wp_at_succ
set_option linter.unusedVariables false
set_option linter.unusedSimpArgs false
set_option maxRecDepth 20000
set_option maxHeartbeats 8000000

theorem covers_any (al as_ an bl bs bn : Int) (w : World) : Calls Try.prog 17 #[.agg #[.int .i64 al, .int .i64 as_, .int .i64 an], .agg #[.int .i64 bl, .int .i64 bs, .int .i64 bn]] w fun e w' => e = .returned (.bool (covers ⟨al, as_, an⟩ ⟨bl, bs, bn⟩)) ∧ Below w.heap.size w w' := by
  obtain ⟨W0, HW0⟩ : ∃ W, Hid (((w.alloc (.cells #[.int .i64 al, .int .i64 as_, .int .i64 an] 23)).alloc (.cells #[.int .i64 bl, .int .i64 bs, .int .i64 bn] 23)) = W) := ⟨_, Lib.hid rfl⟩
  have HBw0 : Hid (Below w.heap.size w W0) := Lib.hid (by rw [← HW0.out]; exact ((Below.refl _ _).alloc (by simp) _).alloc (by simp; try omega) _)
  have HX0_0 : Hid (∀ W, Below W0.heap.size W0 W → W.heap[w.heap.size]? = some (.cells #[.int .i64 al, .int .i64 as_, .int .i64 an] 23 (0, 0))) := Lib.hid (fun W hb => (hb.block _ (by rw [← HW0.out]; simp; try omega)).trans (by rw [← HW0.out]; refine (Below.heap_alloc _ _ _ (by simp; try omega)).trans ?_; have := heap_alloc_new w (.cells #[.int .i64 al, .int .i64 as_, .int .i64 an] 23); exact this))
  have HX1_0 : Hid (∀ W, Below W0.heap.size W0 W → W.heap[w.heap.size + 1]? = some (.cells #[.int .i64 bl, .int .i64 bs, .int .i64 bn] 23 (0, 0))) := Lib.hid (fun W hb => (hb.block _ (by rw [← HW0.out]; simp; try omega)).trans (by rw [← HW0.out]; have := heap_alloc_new (w.alloc (.cells #[.int .i64 al, .int .i64 as_, .int .i64 an] 23)) (.cells #[.int .i64 bl, .int .i64 bs, .int .i64 bn] 23); simp only [World.size_alloc] at this; exact this))
  obtain ⟨u, HU⟩ : ∃ u, Hid (covers ⟨al, as_, an⟩ ⟨bl, bs, bn⟩ = u) := ⟨_, Lib.hid rfl⟩
  rw [HU.out]
  go_enter Try.func17, Try.ntmps17
  go_upto_region 1 with fail
  rw [HW0.out]
  by_cases hlz1 : al < bl
  · have HLz1 := Lib.hid hlz1
    have hu : u = false := by
      rw [← HU.out]
      have x0 := HLz1.out
      simp only [covers, decide_eq_true_eq, decide_eq_false_iff_not]
      omega
    subst hu
    clear HU
    obtain ⟨k2_0, k2_1, k2_2⟩ := cells3 (HX0_0.out W0 (Below.refl _ _))
    obtain ⟨k3_0, k3_1, k3_2⟩ := cells3 (HX1_0.out W0 (Below.refl _ _))
    go_wp2_with fail
    go_ret
    exact ⟨rec.retB (by first | rfl | (simp; done) | (simp; omega)), HBw0.out⟩
  · have HLz1 := Lib.hid hlz1
    have hnz1 : bl ≤ al := by omega
    clear hlz1
    by_cases hlz2 : as_ < bs
    · have HLz2 := Lib.hid hlz2
      have hu : u = false := by
        rw [← HU.out]
        have x0 := HLz1.out
        have x1 := HLz2.out
        simp only [covers, decide_eq_true_eq, decide_eq_false_iff_not]
        omega
      subst hu
      clear HU
      obtain ⟨k2_0, k2_1, k2_2⟩ := cells3 (HX0_0.out W0 (Below.refl _ _))
      obtain ⟨k3_0, k3_1, k3_2⟩ := cells3 (HX1_0.out W0 (Below.refl _ _))
      go_wp2_with fail
      go_ret
      exact ⟨rec.retB (by first | rfl | (simp; done) | (simp; omega)), HBw0.out⟩
    · have HLz2 := Lib.hid hlz2
      have hnz2 : bs ≤ as_ := by omega
      clear hlz2
      by_cases hlz3 : an < bn
      · have HLz3 := Lib.hid hlz3
        have hu : u = false := by
          rw [← HU.out]
          have x0 := HLz1.out
          have x1 := HLz2.out
          have x2 := HLz3.out
          simp only [covers, decide_eq_true_eq, decide_eq_false_iff_not]
          omega
        subst hu
        clear HU
        obtain ⟨k2_0, k2_1, k2_2⟩ := cells3 (HX0_0.out W0 (Below.refl _ _))
        obtain ⟨k3_0, k3_1, k3_2⟩ := cells3 (HX1_0.out W0 (Below.refl _ _))
        go_wp2_with fail
        go_ret
        exact ⟨rec.retB (by first | rfl | (simp; done) | (simp; omega)), HBw0.out⟩
      · have HLz3 := Lib.hid hlz3
        have hnz3 : bn ≤ an := by omega
        clear hlz3
        have hu : u = true := by
          rw [← HU.out]
          have x0 := HLz1.out
          have x1 := HLz2.out
          have x2 := HLz3.out
          simp only [covers, decide_eq_true_eq, decide_eq_false_iff_not]
          omega
        subst hu
        clear HU
        obtain ⟨k2_0, k2_1, k2_2⟩ := cells3 (HX0_0.out W0 (Below.refl _ _))
        obtain ⟨k3_0, k3_1, k3_2⟩ := cells3 (HX1_0.out W0 (Below.refl _ _))
        go_wp2_with fail
        go_ret
        exact ⟨rec.retB (by first | rfl | (simp; done) | (simp; omega)), HBw0.out⟩
theorem covers_is (al as_ an bl bs bn : Int) {b : Bool} (h : covers ⟨al, as_, an⟩ ⟨bl, bs, bn⟩ = b) (w : World) : Calls Try.prog 17 #[.agg #[.int .i64 al, .int .i64 as_, .int .i64 an], .agg #[.int .i64 bl, .int .i64 bs, .int .i64 bn]] w fun e w' => e = .returned (.bool b) ∧ Below w.heap.size w w' := by
  have key := covers_any al as_ an bl bs bn w
  rw [h] at key
  exact key


end Go.Proofs.Ytiebaiehoebhfaa.cell
