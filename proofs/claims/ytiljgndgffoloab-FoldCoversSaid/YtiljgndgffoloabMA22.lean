/-
  OrdImpl1
-/
import Derived.Test.YtiljgndgffoloabMA20
import Derived.Deep.DeepCutAuto
namespace Go.Proofs.Ytiljgndgffoloab.order
open Go.RowKit Go.Proofs.Ytiljgndgffoloab
open Go.Proofs.Ytiljgndgffoloab.rec (retB)
set_option linter.unusedVariables false
set_option linter.unusedSimpArgs false
set_option maxRecDepth 20000
set_option maxHeartbeats 8000000

def mName (i a y d : Int) : Bool := decide (1 ≤ i ∧ i ≤ 1000000000000 ∧ 0 ≤ a ∧ a < 8 ∧ 0 ≤ y ∧ y < 8 ∧ (d = 1 ∨ d = 2))
def mCount (q p f v : Int) : Bool := decide (1 ≤ q ∧ 1 ≤ p ∧ 0 ≤ f ∧ f ≤ q ∧ 0 ≤ v)
def mPend (m r : Int) : Bool := decide ((m = 0 ∧ r = 0) ∨ (1 ≤ m ∧ 1 ≤ r))
def pend (m : Int) : Bool := decide (m ≠ 0)
def mPhase (q f ph m v : Int) : Bool := decide ((ph = 1 ∧ f = 0 ∧ v = 0 ∧ m = 0) ∨ (ph = 2 ∧ f < q) ∨ (ph = 3 ∧ m = 0))
theorem right_parts (o : Or) : right o = (mName o.i o.a o.y o.d && mCount o.q o.p o.f o.v && mPend o.m o.r && mPhase o.q o.f o.h o.m o.v) := by
  rw [Bool.eq_iff_iff, right_iff]
  unfold Rightly mName mCount mPend mPhase
  simp only [Bool.and_eq_true, decide_eq_true_eq]
  omega

theorem mname_any (i a y d q p f ph m r v : Int) (g : Bool) (w : World) : Calls Try.prog 50 #[.agg #[.int .i64 i, .int .i64 a, .int .i64 y, .int .i64 d, .int .i64 q, .int .i64 p, .int .i64 f, .int .i64 ph, .int .i64 m, .int .i64 r, .int .i64 v, .bool g]] w fun e w' => e = .returned (.bool (mName i a y d)) ∧ Below w.heap.size w w' := by
  by_cases h1 : 1 ≤ i
  · by_cases h2 : i ≤ 1000000000000
    · by_cases h3 : 0 ≤ a
      · by_cases h4 : a < 8
        · by_cases h5 : 0 ≤ y
          · by_cases h6 : y < 8
            · rcases eq_cases d 1 with ⟨HE7, he7, hf7⟩ | ⟨HE7, he7, hf7⟩
              · obtain rfl : d = 1 := HE7.out
                have hu : mName i a y 1 = true := by
                  first | (simp only [mName, decide_eq_false_iff_not, decide_eq_true_eq]; omega) | (simp [mName]; done) | (simp [mName]; omega)
                rw [hu]
                clear hu
                go_enter Try.func50, Try.ntmps50
                go_wp2
                go_ret
                exact ⟨retB (by first | rfl | (simp; omega)), (Below.refl _ _).alloc (Nat.le_refl _) _⟩
              · rcases eq_cases d 2 with ⟨HE8, he8, hf8⟩ | ⟨HE8, he8, hf8⟩
                · obtain rfl : d = 2 := HE8.out
                  have hu : mName i a y 2 = true := by
                    have := HE7.out
                    first | (simp only [mName, decide_eq_false_iff_not, decide_eq_true_eq]; omega) | (simp [mName]; done) | (simp [mName]; omega)
                  rw [hu]
                  clear hu
                  go_enter Try.func50, Try.ntmps50
                  go_wp2
                  go_ret
                  exact ⟨retB (by first | rfl | (simp; omega)), (Below.refl _ _).alloc (Nat.le_refl _) _⟩
                · have hu : mName i a y d = false := by
                    have := HE7.out
                    have := HE8.out
                    first | (simp only [mName, decide_eq_false_iff_not, decide_eq_true_eq]; omega) | (simp [mName]; done) | (simp [mName]; omega)
                  rw [hu]
                  clear hu
                  go_enter Try.func50, Try.ntmps50
                  go_wp2
                  go_ret
                  exact ⟨retB (by first | rfl | (simp; omega)), (Below.refl _ _).alloc (Nat.le_refl _) _⟩
            · have n6 : 8 ≤ y := by omega
              clear h6
              have hu : mName i a y d = false := by
                first | (simp only [mName, decide_eq_false_iff_not, decide_eq_true_eq]; omega) | (simp [mName]; done) | (simp [mName]; omega)
              rw [hu]
              clear hu
              go_enter Try.func50, Try.ntmps50
              go_wp2
              go_ret
              exact ⟨retB (by first | rfl | (simp; omega)), (Below.refl _ _).alloc (Nat.le_refl _) _⟩
          · have n5 : y < 0 := by omega
            clear h5
            have hu : mName i a y d = false := by
              first | (simp only [mName, decide_eq_false_iff_not, decide_eq_true_eq]; omega) | (simp [mName]; done) | (simp [mName]; omega)
            rw [hu]
            clear hu
            go_enter Try.func50, Try.ntmps50
            go_wp2
            go_ret
            exact ⟨retB (by first | rfl | (simp; omega)), (Below.refl _ _).alloc (Nat.le_refl _) _⟩
        · have n4 : 8 ≤ a := by omega
          clear h4
          have hu : mName i a y d = false := by
            first | (simp only [mName, decide_eq_false_iff_not, decide_eq_true_eq]; omega) | (simp [mName]; done) | (simp [mName]; omega)
          rw [hu]
          clear hu
          go_enter Try.func50, Try.ntmps50
          go_wp2
          go_ret
          exact ⟨retB (by first | rfl | (simp; omega)), (Below.refl _ _).alloc (Nat.le_refl _) _⟩
      · have n3 : a < 0 := by omega
        clear h3
        have hu : mName i a y d = false := by
          first | (simp only [mName, decide_eq_false_iff_not, decide_eq_true_eq]; omega) | (simp [mName]; done) | (simp [mName]; omega)
        rw [hu]
        clear hu
        go_enter Try.func50, Try.ntmps50
        go_wp2
        go_ret
        exact ⟨retB (by first | rfl | (simp; omega)), (Below.refl _ _).alloc (Nat.le_refl _) _⟩
    · have n2 : 1000000000000 < i := by omega
      clear h2
      have hu : mName i a y d = false := by
        first | (simp only [mName, decide_eq_false_iff_not, decide_eq_true_eq]; omega) | (simp [mName]; done) | (simp [mName]; omega)
      rw [hu]
      clear hu
      go_enter Try.func50, Try.ntmps50
      go_wp2
      go_ret
      exact ⟨retB (by first | rfl | (simp; omega)), (Below.refl _ _).alloc (Nat.le_refl _) _⟩
  · have n1 : i < 1 := by omega
    clear h1
    have hu : mName i a y d = false := by
      first | (simp only [mName, decide_eq_false_iff_not, decide_eq_true_eq]; omega) | (simp [mName]; done) | (simp [mName]; omega)
    rw [hu]
    clear hu
    go_enter Try.func50, Try.ntmps50
    go_wp2
    go_ret
    exact ⟨retB (by first | rfl | (simp; omega)), (Below.refl _ _).alloc (Nat.le_refl _) _⟩
theorem mname_is (i a y d q p f ph m r v : Int) (g : Bool) {b : Bool} (h : mName i a y d = b) (w : World) : Calls Try.prog 50 #[.agg #[.int .i64 i, .int .i64 a, .int .i64 y, .int .i64 d, .int .i64 q, .int .i64 p, .int .i64 f, .int .i64 ph, .int .i64 m, .int .i64 r, .int .i64 v, .bool g]] w fun e w' => e = .returned (.bool b) ∧ Below w.heap.size w w' := by
  have key := mname_any i a y d q p f ph m r v g w
  rw [h] at key
  exact key

theorem mcount_any (i a y d q p f ph m r v : Int) (g : Bool) (w : World) : Calls Try.prog 51 #[.agg #[.int .i64 i, .int .i64 a, .int .i64 y, .int .i64 d, .int .i64 q, .int .i64 p, .int .i64 f, .int .i64 ph, .int .i64 m, .int .i64 r, .int .i64 v, .bool g]] w fun e w' => e = .returned (.bool (mCount q p f v)) ∧ Below w.heap.size w w' := by
  by_cases h1 : 1 ≤ q
  · by_cases h2 : 1 ≤ p
    · by_cases h3 : 0 ≤ f
      · by_cases h4 : f ≤ q
        · by_cases h5 : 0 ≤ v
          · have hu : mCount q p f v = true := by
              first | (simp only [mCount, decide_eq_false_iff_not, decide_eq_true_eq]; omega) | (simp [mCount]; done) | (simp [mCount]; omega)
            rw [hu]
            clear hu
            go_enter Try.func51, Try.ntmps51
            go_wp2
            go_ret
            exact ⟨retB (by first | rfl | (simp; omega)), (Below.refl _ _).alloc (Nat.le_refl _) _⟩
          · have n5 : v < 0 := by omega
            clear h5
            have hu : mCount q p f v = false := by
              first | (simp only [mCount, decide_eq_false_iff_not, decide_eq_true_eq]; omega) | (simp [mCount]; done) | (simp [mCount]; omega)
            rw [hu]
            clear hu
            go_enter Try.func51, Try.ntmps51
            go_wp2
            go_ret
            exact ⟨retB (by first | rfl | (simp; omega)), (Below.refl _ _).alloc (Nat.le_refl _) _⟩
        · have n4 : q < f := by omega
          clear h4
          have hu : mCount q p f v = false := by
            first | (simp only [mCount, decide_eq_false_iff_not, decide_eq_true_eq]; omega) | (simp [mCount]; done) | (simp [mCount]; omega)
          rw [hu]
          clear hu
          go_enter Try.func51, Try.ntmps51
          go_wp2
          go_ret
          exact ⟨retB (by first | rfl | (simp; omega)), (Below.refl _ _).alloc (Nat.le_refl _) _⟩
      · have n3 : f < 0 := by omega
        clear h3
        have hu : mCount q p f v = false := by
          first | (simp only [mCount, decide_eq_false_iff_not, decide_eq_true_eq]; omega) | (simp [mCount]; done) | (simp [mCount]; omega)
        rw [hu]
        clear hu
        go_enter Try.func51, Try.ntmps51
        go_wp2
        go_ret
        exact ⟨retB (by first | rfl | (simp; omega)), (Below.refl _ _).alloc (Nat.le_refl _) _⟩
    · have n2 : p < 1 := by omega
      clear h2
      have hu : mCount q p f v = false := by
        first | (simp only [mCount, decide_eq_false_iff_not, decide_eq_true_eq]; omega) | (simp [mCount]; done) | (simp [mCount]; omega)
      rw [hu]
      clear hu
      go_enter Try.func51, Try.ntmps51
      go_wp2
      go_ret
      exact ⟨retB (by first | rfl | (simp; omega)), (Below.refl _ _).alloc (Nat.le_refl _) _⟩
  · have n1 : q < 1 := by omega
    clear h1
    have hu : mCount q p f v = false := by
      first | (simp only [mCount, decide_eq_false_iff_not, decide_eq_true_eq]; omega) | (simp [mCount]; done) | (simp [mCount]; omega)
    rw [hu]
    clear hu
    go_enter Try.func51, Try.ntmps51
    go_wp2
    go_ret
    exact ⟨retB (by first | rfl | (simp; omega)), (Below.refl _ _).alloc (Nat.le_refl _) _⟩
theorem mcount_is (i a y d q p f ph m r v : Int) (g : Bool) {b : Bool} (h : mCount q p f v = b) (w : World) : Calls Try.prog 51 #[.agg #[.int .i64 i, .int .i64 a, .int .i64 y, .int .i64 d, .int .i64 q, .int .i64 p, .int .i64 f, .int .i64 ph, .int .i64 m, .int .i64 r, .int .i64 v, .bool g]] w fun e w' => e = .returned (.bool b) ∧ Below w.heap.size w w' := by
  have key := mcount_any i a y d q p f ph m r v g w
  rw [h] at key
  exact key

theorem mpend_any (i a y d q p f ph m r v : Int) (g : Bool) (w : World) : Calls Try.prog 52 #[.agg #[.int .i64 i, .int .i64 a, .int .i64 y, .int .i64 d, .int .i64 q, .int .i64 p, .int .i64 f, .int .i64 ph, .int .i64 m, .int .i64 r, .int .i64 v, .bool g]] w fun e w' => e = .returned (.bool (mPend m r)) ∧ Below w.heap.size w w' := by
  rcases eq_cases m 0 with ⟨HE1, he1, hf1⟩ | ⟨HE1, he1, hf1⟩
  · obtain rfl : m = 0 := HE1.out
    rcases eq_cases r 0 with ⟨HE2, he2, hf2⟩ | ⟨HE2, he2, hf2⟩
    · obtain rfl : r = 0 := HE2.out
      have hu : mPend 0 0 = true := by
        first | (simp only [mPend, decide_eq_false_iff_not, decide_eq_true_eq]; omega) | (simp [mPend]; done) | (simp [mPend]; omega)
      rw [hu]
      clear hu
      go_enter Try.func52, Try.ntmps52
      go_wp2
      go_ret
      exact ⟨retB (by first | rfl | (simp; omega)), (Below.refl _ _).alloc (Nat.le_refl _) _⟩
    · have hu : mPend 0 r = false := by
        have := HE2.out
        first | (simp only [mPend, decide_eq_false_iff_not, decide_eq_true_eq]; omega) | (simp [mPend]; done) | (simp [mPend]; omega)
      rw [hu]
      clear hu
      go_enter Try.func52, Try.ntmps52
      go_wp2
      go_ret
      exact ⟨retB (by first | rfl | (simp; omega)), (Below.refl _ _).alloc (Nat.le_refl _) _⟩
  · by_cases h3 : 1 ≤ m
    · by_cases h4 : 1 ≤ r
      · have hu : mPend m r = true := by
          have := HE1.out
          first | (simp only [mPend, decide_eq_false_iff_not, decide_eq_true_eq]; omega) | (simp [mPend]; done) | (simp [mPend]; omega)
        rw [hu]
        clear hu
        go_enter Try.func52, Try.ntmps52
        go_wp2
        go_ret
        exact ⟨retB (by first | rfl | (simp; omega)), (Below.refl _ _).alloc (Nat.le_refl _) _⟩
      · have n4 : r < 1 := by omega
        clear h4
        have hu : mPend m r = false := by
          have := HE1.out
          first | (simp only [mPend, decide_eq_false_iff_not, decide_eq_true_eq]; omega) | (simp [mPend]; done) | (simp [mPend]; omega)
        rw [hu]
        clear hu
        go_enter Try.func52, Try.ntmps52
        go_wp2
        go_ret
        exact ⟨retB (by first | rfl | (simp; omega)), (Below.refl _ _).alloc (Nat.le_refl _) _⟩
    · have n3 : m < 1 := by omega
      clear h3
      have hu : mPend m r = false := by
        have := HE1.out
        first | (simp only [mPend, decide_eq_false_iff_not, decide_eq_true_eq]; omega) | (simp [mPend]; done) | (simp [mPend]; omega)
      rw [hu]
      clear hu
      go_enter Try.func52, Try.ntmps52
      go_wp2
      go_ret
      exact ⟨retB (by first | rfl | (simp; omega)), (Below.refl _ _).alloc (Nat.le_refl _) _⟩
theorem mpend_is (i a y d q p f ph m r v : Int) (g : Bool) {b : Bool} (h : mPend m r = b) (w : World) : Calls Try.prog 52 #[.agg #[.int .i64 i, .int .i64 a, .int .i64 y, .int .i64 d, .int .i64 q, .int .i64 p, .int .i64 f, .int .i64 ph, .int .i64 m, .int .i64 r, .int .i64 v, .bool g]] w fun e w' => e = .returned (.bool b) ∧ Below w.heap.size w w' := by
  have key := mpend_any i a y d q p f ph m r v g w
  rw [h] at key
  exact key

theorem pend_any (i a y d q p f ph m r v : Int) (g : Bool) (w : World) : Calls Try.prog 71 #[.agg #[.int .i64 i, .int .i64 a, .int .i64 y, .int .i64 d, .int .i64 q, .int .i64 p, .int .i64 f, .int .i64 ph, .int .i64 m, .int .i64 r, .int .i64 v, .bool g]] w fun e w' => e = .returned (.bool (pend m)) ∧ Below w.heap.size w w' := by
  rcases eq_cases m 0 with ⟨HE1, he1, hf1⟩ | ⟨HE1, he1, hf1⟩
  · obtain rfl : m = 0 := HE1.out
    have hu : pend 0 = false := by
      first | (simp only [pend, decide_eq_false_iff_not, decide_eq_true_eq]; omega) | (simp [pend]; done) | (simp [pend]; omega)
    rw [hu]
    clear hu
    go_enter Try.func71, Try.ntmps71
    go_wp2
    go_ret
    exact ⟨retB (by first | rfl | (simp; omega)), (Below.refl _ _).alloc (Nat.le_refl _) _⟩
  · have hu : pend m = true := by
      have := HE1.out
      first | (simp only [pend, decide_eq_false_iff_not, decide_eq_true_eq]; omega) | (simp [pend]; done) | (simp [pend]; omega)
    rw [hu]
    clear hu
    go_enter Try.func71, Try.ntmps71
    go_wp2
    go_ret
    exact ⟨retB (by first | rfl | (simp; omega)), (Below.refl _ _).alloc (Nat.le_refl _) _⟩
theorem pend_is (i a y d q p f ph m r v : Int) (g : Bool) {b : Bool} (h : pend m = b) (w : World) : Calls Try.prog 71 #[.agg #[.int .i64 i, .int .i64 a, .int .i64 y, .int .i64 d, .int .i64 q, .int .i64 p, .int .i64 f, .int .i64 ph, .int .i64 m, .int .i64 r, .int .i64 v, .bool g]] w fun e w' => e = .returned (.bool b) ∧ Below w.heap.size w w' := by
  have key := pend_any i a y d q p f ph m r v g w
  rw [h] at key
  exact key

theorem mphase_any (i a y d q p f ph m r v : Int) (g : Bool) (w : World) : Calls Try.prog 53 #[.agg #[.int .i64 i, .int .i64 a, .int .i64 y, .int .i64 d, .int .i64 q, .int .i64 p, .int .i64 f, .int .i64 ph, .int .i64 m, .int .i64 r, .int .i64 v, .bool g]] w fun e w' => e = .returned (.bool (mPhase q f ph m v)) ∧ Below w.heap.size w w' := by
  obtain ⟨W0, HW0⟩ : ∃ W, Hid ((w.alloc (.cells #[.int .i64 i, .int .i64 a, .int .i64 y, .int .i64 d, .int .i64 q, .int .i64 p, .int .i64 f, .int .i64 ph, .int .i64 m, .int .i64 r, .int .i64 v, .bool g] 47)) = W) := ⟨_, Lib.hid rfl⟩
  have HBW : Hid (Below w.heap.size w W0) := Lib.hid (by rw [← HW0.out]; exact (Below.refl _ _).alloc (by simp) _)
  have HX0 : Hid (∀ W, Below W0.heap.size W0 W → W.heap[w.heap.size]? = some (.cells #[.int .i64 i, .int .i64 a, .int .i64 y, .int .i64 d, .int .i64 q, .int .i64 p, .int .i64 f, .int .i64 ph, .int .i64 m, .int .i64 r, .int .i64 v, .bool g] 47 (0, 0))) := Lib.hid (fun W hb => (hb.block _ (by rw [← HW0.out]; simp; try omega)).trans (by rw [← HW0.out]; have := heap_alloc_new w (.cells #[.int .i64 i, .int .i64 a, .int .i64 y, .int .i64 d, .int .i64 q, .int .i64 p, .int .i64 f, .int .i64 ph, .int .i64 m, .int .i64 r, .int .i64 v, .bool g] 47); exact this))
  obtain ⟨u, HU⟩ : ∃ u, Hid (mPhase q f ph m v = u) := ⟨_, Lib.hid rfl⟩
  rw [HU.out]
  obtain ⟨g0, HG⟩ : ∃ x, Hid (pend m = x) := ⟨_, Lib.hid rfl⟩
  go_enter Try.func53, Try.ntmps53
  rcases eq_cases ph 1 with ⟨HE1, he1, hf1⟩ | ⟨HE1, he1, hf1⟩
  · obtain rfl : ph = 1 := HE1.out
    rcases eq_cases f 0 with ⟨HE2, he2, hf2⟩ | ⟨HE2, he2, hf2⟩
    · rcases eq_cases v 0 with ⟨HE3, he3, hf3⟩ | ⟨HE3, he3, hf3⟩
      · go_wp2_with fail
        refine Calls.mono (pend_is _ _ _ _ _ _ _ _ _ _ _ _ HG.out _) ?_
        rintro e1 W1 ⟨rfl, hb⟩
        rw [HW0.out] at hb
        have HB0_1 : Hid (Below W0.heap.size W0 W1) := Lib.hid (hb)
        clear hb
        have hg := HG.out
        simp only [pend] at hg
        rcases g0 with _ | _
        · simp at hg
          have hu : u = true := by rw [← HU.out]; simp [mPhase, HE2.out, HE3.out, hg]
          subst hu
          clear HU
          go_wp2_with fail
          go_ret
          exact ⟨rfl, HBW.out.trans (HB0_1.out.mono HBW.out.size)⟩
        · simp at hg
          have hu : u = false := by rw [← HU.out]; simp [mPhase, HE2.out, HE3.out, hg]
          subst hu
          clear HU
          go_wp2_with fail
          go_ret
          exact ⟨rfl, HBW.out.trans (HB0_1.out.mono HBW.out.size)⟩
      · have hu : u = false := by rw [← HU.out]; simp [mPhase, HE2.out, HE3.out]
        subst hu
        clear HU
        go_wp2_with fail
        go_ret
        exact ⟨rfl, by rw [HW0.out]; exact HBW.out⟩
    · have hu : u = false := by rw [← HU.out]; simp [mPhase, HE2.out]
      subst hu
      clear HU
      go_wp2_with fail
      go_ret
      exact ⟨rfl, by rw [HW0.out]; exact HBW.out⟩
  · rcases eq_cases ph 2 with ⟨HE4, he4, hf4⟩ | ⟨HE4, he4, hf4⟩
    · obtain rfl : ph = 2 := HE4.out
      by_cases hl5 : f < q
      · have hu : u = true := by rw [← HU.out]; simp [mPhase, hl5]
        subst hu
        clear HU
        go_wp2_with fail
        go_ret
        exact ⟨rfl, by rw [HW0.out]; exact HBW.out⟩
      · have hn5 : q ≤ f := by omega
        have hu : u = false := by rw [← HU.out]; simp [mPhase, hl5]
        subst hu
        clear HU
        go_wp2_with fail
        go_ret
        exact ⟨rfl, by rw [HW0.out]; exact HBW.out⟩
    · rcases eq_cases ph 3 with ⟨HE6, he6, hf6⟩ | ⟨HE6, he6, hf6⟩
      · obtain rfl : ph = 3 := HE6.out
        go_wp2_with fail
        refine Calls.mono (pend_is _ _ _ _ _ _ _ _ _ _ _ _ HG.out _) ?_
        rintro e1 W1 ⟨rfl, hb⟩
        rw [HW0.out] at hb
        have HB0_1 : Hid (Below W0.heap.size W0 W1) := Lib.hid (hb)
        clear hb
        have hg := HG.out
        simp only [pend] at hg
        rcases g0 with _ | _
        · simp at hg
          have hu : u = true := by rw [← HU.out]; simp [mPhase, hg]
          subst hu
          clear HU
          go_wp2_with fail
          go_ret
          exact ⟨rfl, HBW.out.trans (HB0_1.out.mono HBW.out.size)⟩
        · simp at hg
          have hu : u = false := by rw [← HU.out]; simp [mPhase, hg]
          subst hu
          clear HU
          go_wp2_with fail
          go_ret
          exact ⟨rfl, HBW.out.trans (HB0_1.out.mono HBW.out.size)⟩
      · have hu : u = false := by rw [← HU.out]; simp [mPhase, HE1.out, HE4.out, HE6.out]
        subst hu
        clear HU
        go_wp2_with fail
        go_ret
        exact ⟨rfl, by rw [HW0.out]; exact HBW.out⟩
theorem mphase_is (i a y d q p f ph m r v : Int) (g : Bool) {b : Bool} (h : mPhase q f ph m v = b) (w : World) : Calls Try.prog 53 #[.agg #[.int .i64 i, .int .i64 a, .int .i64 y, .int .i64 d, .int .i64 q, .int .i64 p, .int .i64 f, .int .i64 ph, .int .i64 m, .int .i64 r, .int .i64 v, .bool g]] w fun e w' => e = .returned (.bool b) ∧ Below w.heap.size w w' := by
  have key := mphase_any i a y d q p f ph m r v g w
  rw [h] at key
  exact key

theorem right_is (i a y d q p f ph m r v : Int) (g : Bool) {b : Bool} (hf : (⟨i, a, y, d, q, p, f, ph, m, r, v, g⟩ : Or).fine) (h : right ⟨i, a, y, d, q, p, f, ph, m, r, v, g⟩ = b) (w : World) : Calls Try.prog 30 #[.agg #[.int .i64 i, .int .i64 a, .int .i64 y, .int .i64 d, .int .i64 q, .int .i64 p, .int .i64 f, .int .i64 ph, .int .i64 m, .int .i64 r, .int .i64 v, .bool g]] w fun e w' => e = .returned (.bool b) ∧ Below w.heap.size w w' := by
  obtain ⟨W0, HW0⟩ : ∃ W, Hid ((w.alloc (.cells #[.int .i64 i, .int .i64 a, .int .i64 y, .int .i64 d, .int .i64 q, .int .i64 p, .int .i64 f, .int .i64 ph, .int .i64 m, .int .i64 r, .int .i64 v, .bool g] 47)) = W) := ⟨_, Lib.hid rfl⟩
  have HBW : Hid (Below w.heap.size w W0) := Lib.hid (by rw [← HW0.out]; exact (Below.refl _ _).alloc (by simp) _)
  have HX0 : Hid (∀ W, Below W0.heap.size W0 W → W.heap[w.heap.size]? = some (.cells #[.int .i64 i, .int .i64 a, .int .i64 y, .int .i64 d, .int .i64 q, .int .i64 p, .int .i64 f, .int .i64 ph, .int .i64 m, .int .i64 r, .int .i64 v, .bool g] 47 (0, 0))) := Lib.hid (fun W hb => (hb.block _ (by rw [← HW0.out]; simp; try omega)).trans (by rw [← HW0.out]; have := heap_alloc_new w (.cells #[.int .i64 i, .int .i64 a, .int .i64 y, .int .i64 d, .int .i64 q, .int .i64 p, .int .i64 f, .int .i64 ph, .int .i64 m, .int .i64 r, .int .i64 v, .bool g] 47); exact this))
  obtain ⟨b0, H0⟩ : ∃ x, Hid (mName i a y d = x) := ⟨_, Lib.hid rfl⟩
  obtain ⟨b1, H1⟩ : ∃ x, Hid (mCount q p f v = x) := ⟨_, Lib.hid rfl⟩
  obtain ⟨b2, H2⟩ : ∃ x, Hid (mPend m r = x) := ⟨_, Lib.hid rfl⟩
  obtain ⟨b3, H3⟩ : ∃ x, Hid (mPhase q f ph m v = x) := ⟨_, Lib.hid rfl⟩
  have HH : Hid ((((b0 && b1) && b2) && b3) = b) := Lib.hid (by rw [← h, right_parts, ← H0.out, ← H1.out, ← H2.out, ← H3.out])
  clear h hf
  go_enter Try.func30, Try.ntmps30
  go_wp2_with fail
  refine Calls.mono (mname_is i a y d q p f ph m r v g H0.out _) ?_
  rintro e1 W1 ⟨rfl, hb⟩
  rw [HW0.out] at hb
  have HB0_1 : Hid (Below W0.heap.size W0 W1) := Lib.hid (hb)
  clear hb
  obtain ⟨k_0, k_1, k_2, k_3, k_4, k_5, k_6, k_7, k_8, k_9, k_10, k_11⟩ := cells12 (HX0.out W1 HB0_1.out)
  rcases b0 with _ | _
  · simp only [Bool.false_and, Bool.true_and, Bool.and_false, Bool.and_true] at HH
    have hv := HH.out
    subst hv
    clear HH
    go_wp2_with fail
    go_ret
    exact ⟨rfl, HBW.out.trans (HB0_1.out.mono HBW.out.size)⟩
  · go_wp2_with fail
    refine Calls.mono (mcount_is i a y d q p f ph m r v g H1.out _) ?_
    rintro e2 W2 ⟨rfl, hb⟩
    have HB0_2 : Hid (Below W0.heap.size W0 W2) := Lib.hid (HB0_1.out.trans ((hb : Below W1.heap.size W1 W2).mono HB0_1.out.size))
    have HB1_2 : Hid (Below W1.heap.size W1 W2) := Lib.hid (hb)
    clear hb
    clear k_0 k_1 k_2 k_3 k_4 k_5 k_6 k_7 k_8 k_9 k_10 k_11
    obtain ⟨k_0, k_1, k_2, k_3, k_4, k_5, k_6, k_7, k_8, k_9, k_10, k_11⟩ := cells12 (HX0.out W2 HB0_2.out)
    rcases b1 with _ | _
    · simp only [Bool.false_and, Bool.true_and, Bool.and_false, Bool.and_true] at HH
      have hv := HH.out
      subst hv
      clear HH
      go_wp2_with fail
      go_ret
      exact ⟨rfl, HBW.out.trans (HB0_2.out.mono HBW.out.size)⟩
    · go_wp2_with fail
      refine Calls.mono (mpend_is i a y d q p f ph m r v g H2.out _) ?_
      rintro e3 W3 ⟨rfl, hb⟩
      have HB0_3 : Hid (Below W0.heap.size W0 W3) := Lib.hid (HB0_2.out.trans ((hb : Below W2.heap.size W2 W3).mono HB0_2.out.size))
      have HB1_3 : Hid (Below W1.heap.size W1 W3) := Lib.hid (HB1_2.out.trans ((hb : Below W2.heap.size W2 W3).mono HB1_2.out.size))
      have HB2_3 : Hid (Below W2.heap.size W2 W3) := Lib.hid (hb)
      clear hb
      clear k_0 k_1 k_2 k_3 k_4 k_5 k_6 k_7 k_8 k_9 k_10 k_11
      obtain ⟨k_0, k_1, k_2, k_3, k_4, k_5, k_6, k_7, k_8, k_9, k_10, k_11⟩ := cells12 (HX0.out W3 HB0_3.out)
      rcases b2 with _ | _
      · simp only [Bool.false_and, Bool.true_and, Bool.and_false, Bool.and_true] at HH
        have hv := HH.out
        subst hv
        clear HH
        go_wp2_with fail
        go_ret
        exact ⟨rfl, HBW.out.trans (HB0_3.out.mono HBW.out.size)⟩
      · go_wp2_with fail
        refine Calls.mono (mphase_is i a y d q p f ph m r v g H3.out _) ?_
        rintro e4 W4 ⟨rfl, hb⟩
        have HB0_4 : Hid (Below W0.heap.size W0 W4) := Lib.hid (HB0_3.out.trans ((hb : Below W3.heap.size W3 W4).mono HB0_3.out.size))
        have HB1_4 : Hid (Below W1.heap.size W1 W4) := Lib.hid (HB1_3.out.trans ((hb : Below W3.heap.size W3 W4).mono HB1_3.out.size))
        have HB2_4 : Hid (Below W2.heap.size W2 W4) := Lib.hid (HB2_3.out.trans ((hb : Below W3.heap.size W3 W4).mono HB2_3.out.size))
        have HB3_4 : Hid (Below W3.heap.size W3 W4) := Lib.hid (hb)
        clear hb
        clear k_0 k_1 k_2 k_3 k_4 k_5 k_6 k_7 k_8 k_9 k_10 k_11
        obtain ⟨k_0, k_1, k_2, k_3, k_4, k_5, k_6, k_7, k_8, k_9, k_10, k_11⟩ := cells12 (HX0.out W4 HB0_4.out)
        rcases b3 with _ | _
        · simp only [Bool.false_and, Bool.true_and, Bool.and_false, Bool.and_true] at HH
          have hv := HH.out
          subst hv
          clear HH
          go_wp2_with fail
          go_ret
          exact ⟨rfl, HBW.out.trans (HB0_4.out.mono HBW.out.size)⟩
        · simp only [Bool.false_and, Bool.true_and, Bool.and_false, Bool.and_true] at HH
          have hv := HH.out
          subst hv
          clear HH
          go_wp2_with fail
          go_ret
          exact ⟨rfl, HBW.out.trans (HB0_4.out.mono HBW.out.size)⟩

end Go.Proofs.Ytiljgndgffoloab.order
