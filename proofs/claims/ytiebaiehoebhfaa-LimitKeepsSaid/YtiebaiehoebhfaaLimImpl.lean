/-
  The contracts of the landed limit's functions.
-/
import Derived.Test.YtiebaiehoebhfaaLimMath
import Derived.Test.YtiebaiehoebhfaaCellEq
import Derived.Test.YtiebaiehoebhfaaRet
import Derived.Test.YtiebaiehoebhfaaWhole
import Derived.Test.YtiebaiehoebhfaaCls
import Derived.Test.YtiebaiehoebhfaaLimImplH
import Derived.Deep.DeepCutAuto
import Derived.Deep.DrawnRows
import Derived.Deep.RegionHeld
namespace Go.Proofs.Ytiebaiehoebhfaa.limit
open Go.RowKit Go.Proofs.Ytiebaiehoebhfaa Go.Proofs.Ytiebaiehoebhfaa.cell
open Go.Proofs.Ytiebaiehoebhfaa.order (eq_cases)
set_option linter.unusedVariables false
set_option linter.unusedSimpArgs false
set_option maxRecDepth 20000
set_option maxHeartbeats 8000000

theorem right_any (al as_ an : Int) (w : World) : Calls Try.prog 9 #[.agg #[.int .i64 al, .int .i64 as_, .int .i64 an]] w fun e w' => e = .returned (.bool (limit.right ⟨al, as_, an⟩)) ∧ Below w.heap.size w w' := by
  obtain ⟨W0, HW0⟩ : ∃ W, Hid ((w.alloc (.cells #[.int .i64 al, .int .i64 as_, .int .i64 an] 23)) = W) := ⟨_, Lib.hid rfl⟩
  have HBw0 : Hid (Below w.heap.size w W0) := Lib.hid (by rw [← HW0.out]; exact (Below.refl _ _).alloc (by simp) _)
  have HX0_0 : Hid (∀ W, Below W0.heap.size W0 W → W.heap[w.heap.size]? = some (.cells #[.int .i64 al, .int .i64 as_, .int .i64 an] 23 (0, 0))) := Lib.hid (fun W hb => (hb.block _ (by rw [← HW0.out]; simp; try omega)).trans (by rw [← HW0.out]; have := heap_alloc_new w (.cells #[.int .i64 al, .int .i64 as_, .int .i64 an] 23); exact this))
  obtain ⟨u, HU⟩ : ∃ u, Hid (limit.right ⟨al, as_, an⟩ = u) := ⟨_, Lib.hid rfl⟩
  rw [HU.out]
  go_enter Try.func9, Try.ntmps9
  go_upto_region 1 with fail
  rw [HW0.out]
  by_cases hlz1 : al < 0
  · have HLz1 := Lib.hid hlz1
    have hu : u = false := by
      rw [← HU.out]
      have x0 := HLz1.out
      simp only [limit.right, Bool.or_eq_true, Bool.or_eq_false_iff, decide_eq_true_eq, decide_eq_false_iff_not, true_or, or_true, true_and, and_true, Bool.or_true, Bool.true_or, Bool.or_false, Bool.false_or]
      try omega
    subst hu
    clear HU
    obtain ⟨k1_0, k1_1, k1_2⟩ := cells3 (HX0_0.out W0 (Below.refl _ _))
    go_wp2_with fail
    go_ret
    exact ⟨rec.retB (by first | rfl | (simp; done) | (simp; omega)), HBw0.out⟩
  · have HLz1 := Lib.hid hlz1
    have hnz1 : 0 ≤ al := by omega
    clear hlz1
    by_cases hlz2 : as_ < 0
    · have HLz2 := Lib.hid hlz2
      have hu : u = false := by
        rw [← HU.out]
        have x0 := HLz1.out
        have x1 := HLz2.out
        simp only [limit.right, Bool.or_eq_true, Bool.or_eq_false_iff, decide_eq_true_eq, decide_eq_false_iff_not, true_or, or_true, true_and, and_true, Bool.or_true, Bool.true_or, Bool.or_false, Bool.false_or]
        try omega
      subst hu
      clear HU
      obtain ⟨k1_0, k1_1, k1_2⟩ := cells3 (HX0_0.out W0 (Below.refl _ _))
      go_wp2_with fail
      go_ret
      exact ⟨rec.retB (by first | rfl | (simp; done) | (simp; omega)), HBw0.out⟩
    · have HLz2 := Lib.hid hlz2
      have hnz2 : 0 ≤ as_ := by omega
      clear hlz2
      by_cases hlz3 : an < 0
      · have HLz3 := Lib.hid hlz3
        have hu : u = false := by
          rw [← HU.out]
          have x0 := HLz1.out
          have x1 := HLz2.out
          have x2 := HLz3.out
          simp only [limit.right, Bool.or_eq_true, Bool.or_eq_false_iff, decide_eq_true_eq, decide_eq_false_iff_not, true_or, or_true, true_and, and_true, Bool.or_true, Bool.true_or, Bool.or_false, Bool.false_or]
          try omega
        subst hu
        clear HU
        obtain ⟨k1_0, k1_1, k1_2⟩ := cells3 (HX0_0.out W0 (Below.refl _ _))
        go_wp2_with fail
        go_ret
        exact ⟨rec.retB (by first | rfl | (simp; done) | (simp; omega)), HBw0.out⟩
      · have HLz3 := Lib.hid hlz3
        have hnz3 : 0 ≤ an := by omega
        clear hlz3
        have hu : u = true := by
          rw [← HU.out]
          have x0 := HLz1.out
          have x1 := HLz2.out
          have x2 := HLz3.out
          simp only [limit.right, Bool.or_eq_true, Bool.or_eq_false_iff, decide_eq_true_eq, decide_eq_false_iff_not, true_or, or_true, true_and, and_true, Bool.or_true, Bool.true_or, Bool.or_false, Bool.false_or]
          try omega
        subst hu
        clear HU
        obtain ⟨k1_0, k1_1, k1_2⟩ := cells3 (HX0_0.out W0 (Below.refl _ _))
        go_wp2_with fail
        go_ret
        exact ⟨rec.retB (by first | rfl | (simp; done) | (simp; omega)), HBw0.out⟩
theorem right_is (al as_ an : Int) {b : Bool} (h : limit.right ⟨al, as_, an⟩ = b) (w : World) : Calls Try.prog 9 #[.agg #[.int .i64 al, .int .i64 as_, .int .i64 an]] w fun e w' => e = .returned (.bool b) ∧ Below w.heap.size w w' := by
  have key := right_any al as_ an w
  rw [h] at key
  exact key

theorem cap0_any (a b c : Int) (w : World) : Calls Try.prog 13 #[.int .i64 a, .int .i64 b, .int .i64 c] w fun e w' => e = .returned (.bool (cap a b c)) ∧ w = w' := by
  unfold cap
  by_cases h1 : a < b
  · by_cases h2 : c < b
    · rw [show decide (a < b ∧ c < b) = true by simp [h1, h2]]
      go_enter Try.func13, Try.ntmps13
      go_wp2
      go_ret
      exact ⟨rec.retB (by first | rfl | (simp; done) | (simp; omega)), rfl⟩
    · rw [show decide (a < b ∧ c < b) = false by simp [h2]]
      go_enter Try.func13, Try.ntmps13
      go_wp2
      go_ret
      exact ⟨rec.retB (by first | rfl | (simp; done) | (simp; omega)), rfl⟩
  · rw [show decide (a < b ∧ c < b) = false by simp [h1]]
    go_enter Try.func13, Try.ntmps13
    go_wp2
    go_ret
    exact ⟨rec.retB (by first | rfl | (simp; done) | (simp; omega)), rfl⟩
theorem cap0_is (a b c : Int) {r : Bool} (h : cap a b c = r) (w : World) : Calls Try.prog 13 #[.int .i64 a, .int .i64 b, .int .i64 c] w fun e w' => e = .returned (.bool r) ∧ w = w' := by
  have key := cap0_any a b c w
  rw [h] at key
  exact key
theorem cap_is (x y z : Int) {b : Bool} (h : cap x y z = b) (w : World) : Calls Try.prog 13 #[.int .i64 x, .int .i64 y, .int .i64 z] w fun e w' => e = .returned (.bool b) ∧ Below w.heap.size w w' :=
  (cap0_is x y z h w).mono fun e w' ⟨he, hw⟩ => ⟨he, hw ▸ Below.refl _ _⟩
theorem against_any (al as_ an bl bs bn cl cs_ cn : Int) (w : World) : Calls Try.prog 11 #[.agg #[.int .i64 al, .int .i64 as_, .int .i64 an], .agg #[.int .i64 bl, .int .i64 bs, .int .i64 bn], .agg #[.int .i64 cl, .int .i64 cs_, .int .i64 cn]] w fun e w' => e = .returned (.bool (against ⟨al, as_, an⟩ ⟨bl, bs, bn⟩ ⟨cl, cs_, cn⟩)) ∧ Below w.heap.size w w' := by
  obtain ⟨W0, HW0⟩ : ∃ W, Hid ((((w.alloc (.cells #[.int .i64 al, .int .i64 as_, .int .i64 an] 23)).alloc (.cells #[.int .i64 bl, .int .i64 bs, .int .i64 bn] 23)).alloc (.cells #[.int .i64 cl, .int .i64 cs_, .int .i64 cn] 23)) = W) := ⟨_, Lib.hid rfl⟩
  have HBw0 : Hid (Below w.heap.size w W0) := Lib.hid (by rw [← HW0.out]; exact (((Below.refl _ _).alloc (by simp) _).alloc (by simp; try omega) _).alloc (by simp; try omega) _)
  have HX0_0 : Hid (∀ W, Below W0.heap.size W0 W → W.heap[w.heap.size]? = some (.cells #[.int .i64 al, .int .i64 as_, .int .i64 an] 23 (0, 0))) := Lib.hid (fun W hb => (hb.block _ (by rw [← HW0.out]; simp; try omega)).trans (by rw [← HW0.out]; refine (Below.heap_alloc _ _ _ (by simp; try omega)).trans ?_; refine (Below.heap_alloc _ _ _ (by simp; try omega)).trans ?_; have := heap_alloc_new w (.cells #[.int .i64 al, .int .i64 as_, .int .i64 an] 23); exact this))
  have HX1_0 : Hid (∀ W, Below W0.heap.size W0 W → W.heap[w.heap.size + 1]? = some (.cells #[.int .i64 bl, .int .i64 bs, .int .i64 bn] 23 (0, 0))) := Lib.hid (fun W hb => (hb.block _ (by rw [← HW0.out]; simp; try omega)).trans (by rw [← HW0.out]; refine (Below.heap_alloc _ _ _ (by simp; try omega)).trans ?_; have := heap_alloc_new (w.alloc (.cells #[.int .i64 al, .int .i64 as_, .int .i64 an] 23)) (.cells #[.int .i64 bl, .int .i64 bs, .int .i64 bn] 23); simp only [World.size_alloc] at this; exact this))
  have HX2_0 : Hid (∀ W, Below W0.heap.size W0 W → W.heap[w.heap.size + 1 + 1]? = some (.cells #[.int .i64 cl, .int .i64 cs_, .int .i64 cn] 23 (0, 0))) := Lib.hid (fun W hb => (hb.block _ (by rw [← HW0.out]; simp; try omega)).trans (by rw [← HW0.out]; have := heap_alloc_new ((w.alloc (.cells #[.int .i64 al, .int .i64 as_, .int .i64 an] 23)).alloc (.cells #[.int .i64 bl, .int .i64 bs, .int .i64 bn] 23)) (.cells #[.int .i64 cl, .int .i64 cs_, .int .i64 cn] 23); simp only [World.size_alloc] at this; exact this))
  obtain ⟨u, HU⟩ : ∃ u, Hid (against ⟨al, as_, an⟩ ⟨bl, bs, bn⟩ ⟨cl, cs_, cn⟩ = u) := ⟨_, Lib.hid rfl⟩
  rw [HU.out]
  go_enter Try.func11, Try.ntmps11
  go_upto_region 1 with fail
  rw [HW0.out]
  obtain ⟨cb1, HCb1⟩ : ∃ x, Hid (cap al bl cl = x) := ⟨_, Lib.hid rfl⟩
  rcases cb1 with _ | _
  · obtain ⟨k3_0, k3_1, k3_2⟩ := cells3 (HX0_0.out W0 (Below.refl _ _))
    obtain ⟨k4_0, k4_1, k4_2⟩ := cells3 (HX1_0.out W0 (Below.refl _ _))
    obtain ⟨k5_0, k5_1, k5_2⟩ := cells3 (HX2_0.out W0 (Below.refl _ _))
    go_wp2_with fail
    refine Calls.mono (cap0_is al bl cl HCb1.out _) ?_
    rintro e9 W9 ⟨rfl, rfl⟩
    obtain ⟨cb2, HCb2⟩ : ∃ x, Hid (cap as_ bs cs_ = x) := ⟨_, Lib.hid rfl⟩
    rcases cb2 with _ | _
    · clear k3_0 k3_1 k3_2 k4_0 k4_1 k4_2 k5_0 k5_1 k5_2
      obtain ⟨k3_0, k3_1, k3_2⟩ := cells3 (HX0_0.out W0 (Below.refl _ _))
      obtain ⟨k4_0, k4_1, k4_2⟩ := cells3 (HX1_0.out W0 (Below.refl _ _))
      obtain ⟨k5_0, k5_1, k5_2⟩ := cells3 (HX2_0.out W0 (Below.refl _ _))
      go_wp2_with fail
      refine Calls.mono (cap0_is as_ bs cs_ HCb2.out _) ?_
      rintro e9 W9 ⟨rfl, rfl⟩
      obtain ⟨cb3, HCb3⟩ : ∃ x, Hid (cap an bn cn = x) := ⟨_, Lib.hid rfl⟩
      rcases cb3 with _ | _
      · clear k3_0 k3_1 k3_2 k4_0 k4_1 k4_2 k5_0 k5_1 k5_2
        obtain ⟨k3_0, k3_1, k3_2⟩ := cells3 (HX0_0.out W0 (Below.refl _ _))
        obtain ⟨k4_0, k4_1, k4_2⟩ := cells3 (HX1_0.out W0 (Below.refl _ _))
        obtain ⟨k5_0, k5_1, k5_2⟩ := cells3 (HX2_0.out W0 (Below.refl _ _))
        go_wp2_with fail
        refine Calls.mono (cap0_is an bn cn HCb3.out _) ?_
        rintro e9 W9 ⟨rfl, rfl⟩
        have hu : u = false := by
          rw [← HU.out]
          simp only [against, Bool.or_eq_true, Bool.or_eq_false_iff, decide_eq_true_eq, decide_eq_false_iff_not, HCb1.out, HCb2.out, HCb3.out, true_or, or_true, true_and, and_true, Bool.or_true, Bool.true_or, Bool.or_false, Bool.false_or]
          try omega
        subst hu
        clear HU
        clear k3_0 k3_1 k3_2 k4_0 k4_1 k4_2 k5_0 k5_1 k5_2
        go_wp2_with fail
        go_ret
        exact ⟨rec.retB (by first | rfl | (simp; done) | (simp; omega)), HBw0.out⟩
      · clear k3_0 k3_1 k3_2 k4_0 k4_1 k4_2 k5_0 k5_1 k5_2
        obtain ⟨k3_0, k3_1, k3_2⟩ := cells3 (HX0_0.out W0 (Below.refl _ _))
        obtain ⟨k4_0, k4_1, k4_2⟩ := cells3 (HX1_0.out W0 (Below.refl _ _))
        obtain ⟨k5_0, k5_1, k5_2⟩ := cells3 (HX2_0.out W0 (Below.refl _ _))
        go_wp2_with fail
        refine Calls.mono (cap0_is an bn cn HCb3.out _) ?_
        rintro e9 W9 ⟨rfl, rfl⟩
        have hu : u = true := by
          rw [← HU.out]
          simp only [against, Bool.or_eq_true, Bool.or_eq_false_iff, decide_eq_true_eq, decide_eq_false_iff_not, HCb1.out, HCb2.out, HCb3.out, true_or, or_true, true_and, and_true, Bool.or_true, Bool.true_or, Bool.or_false, Bool.false_or]
          try omega
        subst hu
        clear HU
        clear k3_0 k3_1 k3_2 k4_0 k4_1 k4_2 k5_0 k5_1 k5_2
        go_wp2_with fail
        go_ret
        exact ⟨rec.retB (by first | rfl | (simp; done) | (simp; omega)), HBw0.out⟩
    · clear k3_0 k3_1 k3_2 k4_0 k4_1 k4_2 k5_0 k5_1 k5_2
      obtain ⟨k3_0, k3_1, k3_2⟩ := cells3 (HX0_0.out W0 (Below.refl _ _))
      obtain ⟨k4_0, k4_1, k4_2⟩ := cells3 (HX1_0.out W0 (Below.refl _ _))
      obtain ⟨k5_0, k5_1, k5_2⟩ := cells3 (HX2_0.out W0 (Below.refl _ _))
      go_wp2_with fail
      refine Calls.mono (cap0_is as_ bs cs_ HCb2.out _) ?_
      rintro e9 W9 ⟨rfl, rfl⟩
      have hu : u = true := by
        rw [← HU.out]
        simp only [against, Bool.or_eq_true, Bool.or_eq_false_iff, decide_eq_true_eq, decide_eq_false_iff_not, HCb1.out, HCb2.out, true_or, or_true, true_and, and_true, Bool.or_true, Bool.true_or, Bool.or_false, Bool.false_or]
        try omega
      subst hu
      clear HU
      clear k3_0 k3_1 k3_2 k4_0 k4_1 k4_2 k5_0 k5_1 k5_2
      go_wp2_with fail
      go_ret
      exact ⟨rec.retB (by first | rfl | (simp; done) | (simp; omega)), HBw0.out⟩
  · obtain ⟨k3_0, k3_1, k3_2⟩ := cells3 (HX0_0.out W0 (Below.refl _ _))
    obtain ⟨k4_0, k4_1, k4_2⟩ := cells3 (HX1_0.out W0 (Below.refl _ _))
    obtain ⟨k5_0, k5_1, k5_2⟩ := cells3 (HX2_0.out W0 (Below.refl _ _))
    go_wp2_with fail
    refine Calls.mono (cap0_is al bl cl HCb1.out _) ?_
    rintro e9 W9 ⟨rfl, rfl⟩
    have hu : u = true := by
      rw [← HU.out]
      simp only [against, Bool.or_eq_true, Bool.or_eq_false_iff, decide_eq_true_eq, decide_eq_false_iff_not, HCb1.out, true_or, or_true, true_and, and_true, Bool.or_true, Bool.true_or, Bool.or_false, Bool.false_or]
      try omega
    subst hu
    clear HU
    clear k3_0 k3_1 k3_2 k4_0 k4_1 k4_2 k5_0 k5_1 k5_2
    go_wp2_with fail
    go_ret
    exact ⟨rec.retB (by first | rfl | (simp; done) | (simp; omega)), HBw0.out⟩
theorem against_is (al as_ an bl bs bn cl cs_ cn : Int) {b : Bool} (h : against ⟨al, as_, an⟩ ⟨bl, bs, bn⟩ ⟨cl, cs_, cn⟩ = b) (w : World) : Calls Try.prog 11 #[.agg #[.int .i64 al, .int .i64 as_, .int .i64 an], .agg #[.int .i64 bl, .int .i64 bs, .int .i64 bn], .agg #[.int .i64 cl, .int .i64 cs_, .int .i64 cn]] w fun e w' => e = .returned (.bool b) ∧ Below w.heap.size w w' := by
  have key := against_any al as_ an bl bs bn cl cs_ cn w
  rw [h] at key
  exact key

theorem lowers_any (al as_ an bl bs bn : Int) (w : World) : Calls Try.prog 15 #[.agg #[.int .i64 al, .int .i64 as_, .int .i64 an], .agg #[.int .i64 bl, .int .i64 bs, .int .i64 bn]] w fun e w' => e = .returned (.bool (lowers ⟨al, as_, an⟩ ⟨bl, bs, bn⟩)) ∧ Below w.heap.size w w' := by
  obtain ⟨W0, HW0⟩ : ∃ W, Hid (((w.alloc (.cells #[.int .i64 al, .int .i64 as_, .int .i64 an] 23)).alloc (.cells #[.int .i64 bl, .int .i64 bs, .int .i64 bn] 23)) = W) := ⟨_, Lib.hid rfl⟩
  have HBw0 : Hid (Below w.heap.size w W0) := Lib.hid (by rw [← HW0.out]; exact ((Below.refl _ _).alloc (by simp) _).alloc (by simp; try omega) _)
  have HX0_0 : Hid (∀ W, Below W0.heap.size W0 W → W.heap[w.heap.size]? = some (.cells #[.int .i64 al, .int .i64 as_, .int .i64 an] 23 (0, 0))) := Lib.hid (fun W hb => (hb.block _ (by rw [← HW0.out]; simp; try omega)).trans (by rw [← HW0.out]; refine (Below.heap_alloc _ _ _ (by simp; try omega)).trans ?_; have := heap_alloc_new w (.cells #[.int .i64 al, .int .i64 as_, .int .i64 an] 23); exact this))
  have HX1_0 : Hid (∀ W, Below W0.heap.size W0 W → W.heap[w.heap.size + 1]? = some (.cells #[.int .i64 bl, .int .i64 bs, .int .i64 bn] 23 (0, 0))) := Lib.hid (fun W hb => (hb.block _ (by rw [← HW0.out]; simp; try omega)).trans (by rw [← HW0.out]; have := heap_alloc_new (w.alloc (.cells #[.int .i64 al, .int .i64 as_, .int .i64 an] 23)) (.cells #[.int .i64 bl, .int .i64 bs, .int .i64 bn] 23); simp only [World.size_alloc] at this; exact this))
  obtain ⟨u, HU⟩ : ∃ u, Hid (lowers ⟨al, as_, an⟩ ⟨bl, bs, bn⟩ = u) := ⟨_, Lib.hid rfl⟩
  rw [HU.out]
  go_enter Try.func15, Try.ntmps15
  go_upto_region 1 with fail
  rw [HW0.out]
  by_cases hlz1 : bl < al
  · have HLz1 := Lib.hid hlz1
    have hu : u = true := by
      rw [← HU.out]
      have x0 := HLz1.out
      simp only [lowers, Bool.or_eq_true, Bool.or_eq_false_iff, decide_eq_true_eq, decide_eq_false_iff_not, true_or, or_true, true_and, and_true, Bool.or_true, Bool.true_or, Bool.or_false, Bool.false_or]
      try omega
    subst hu
    clear HU
    obtain ⟨k3_0, k3_1, k3_2⟩ := cells3 (HX1_0.out W0 (Below.refl _ _))
    obtain ⟨k2_0, k2_1, k2_2⟩ := cells3 (HX0_0.out W0 (Below.refl _ _))
    go_wp2_with fail
    go_ret
    exact ⟨rec.retB (by first | rfl | (simp; done) | (simp; omega)), HBw0.out⟩
  · have HLz1 := Lib.hid hlz1
    have hnz1 : al ≤ bl := by omega
    clear hlz1
    by_cases hlz2 : bs < as_
    · have HLz2 := Lib.hid hlz2
      have hu : u = true := by
        rw [← HU.out]
        have x0 := HLz1.out
        have x1 := HLz2.out
        simp only [lowers, Bool.or_eq_true, Bool.or_eq_false_iff, decide_eq_true_eq, decide_eq_false_iff_not, true_or, or_true, true_and, and_true, Bool.or_true, Bool.true_or, Bool.or_false, Bool.false_or]
        try omega
      subst hu
      clear HU
      obtain ⟨k3_0, k3_1, k3_2⟩ := cells3 (HX1_0.out W0 (Below.refl _ _))
      obtain ⟨k2_0, k2_1, k2_2⟩ := cells3 (HX0_0.out W0 (Below.refl _ _))
      go_wp2_with fail
      go_ret
      exact ⟨rec.retB (by first | rfl | (simp; done) | (simp; omega)), HBw0.out⟩
    · have HLz2 := Lib.hid hlz2
      have hnz2 : as_ ≤ bs := by omega
      clear hlz2
      by_cases hlz3 : bn < an
      · have HLz3 := Lib.hid hlz3
        have hu : u = true := by
          rw [← HU.out]
          have x0 := HLz1.out
          have x1 := HLz2.out
          have x2 := HLz3.out
          simp only [lowers, Bool.or_eq_true, Bool.or_eq_false_iff, decide_eq_true_eq, decide_eq_false_iff_not, true_or, or_true, true_and, and_true, Bool.or_true, Bool.true_or, Bool.or_false, Bool.false_or]
          try omega
        subst hu
        clear HU
        obtain ⟨k3_0, k3_1, k3_2⟩ := cells3 (HX1_0.out W0 (Below.refl _ _))
        obtain ⟨k2_0, k2_1, k2_2⟩ := cells3 (HX0_0.out W0 (Below.refl _ _))
        go_wp2_with fail
        go_ret
        exact ⟨rec.retB (by first | rfl | (simp; done) | (simp; omega)), HBw0.out⟩
      · have HLz3 := Lib.hid hlz3
        have hnz3 : an ≤ bn := by omega
        clear hlz3
        have hu : u = false := by
          rw [← HU.out]
          have x0 := HLz1.out
          have x1 := HLz2.out
          have x2 := HLz3.out
          simp only [lowers, Bool.or_eq_true, Bool.or_eq_false_iff, decide_eq_true_eq, decide_eq_false_iff_not, true_or, or_true, true_and, and_true, Bool.or_true, Bool.true_or, Bool.or_false, Bool.false_or]
          try omega
        subst hu
        clear HU
        obtain ⟨k3_0, k3_1, k3_2⟩ := cells3 (HX1_0.out W0 (Below.refl _ _))
        obtain ⟨k2_0, k2_1, k2_2⟩ := cells3 (HX0_0.out W0 (Below.refl _ _))
        go_wp2_with fail
        go_ret
        exact ⟨rec.retB (by first | rfl | (simp; done) | (simp; omega)), HBw0.out⟩
theorem lowers_is (al as_ an bl bs bn : Int) {b : Bool} (h : lowers ⟨al, as_, an⟩ ⟨bl, bs, bn⟩ = b) (w : World) : Calls Try.prog 15 #[.agg #[.int .i64 al, .int .i64 as_, .int .i64 an], .agg #[.int .i64 bl, .int .i64 bs, .int .i64 bn]] w fun e w' => e = .returned (.bool b) ∧ Below w.heap.size w w' := by
  have key := lowers_any al as_ an bl bs bn w
  rw [h] at key
  exact key


end Go.Proofs.Ytiebaiehoebhfaa.limit
