/-
  The contracts of the landed order's Change, End, Open, Worth.
-/
import Derived.Test.YtfnapckjccjjjaaOrdImpl3
import Derived.Test.YtfnapckjccjjjaaNumAdd
import Derived.Test.YtfnapckjccjjjaaNumMul
import Derived.Test.YtfnapckjccjjjaaNumMax
import Derived.Test.YtfnapckjccjjjaaOwn
import Derived.Deep.DeepCutAuto
import Derived.BigQuiet
namespace Go.Proofs.Ytfnapckjccjjjaa.order
open Go.RowKit Go.Proofs.Ytfnapckjccjjjaa
set_option linter.unusedVariables false
set_option linter.unusedSimpArgs false
set_option maxRecDepth 20000
set_option maxHeartbeats 8000000

theorem change_any (i a y d q p f ph m r v : Int) (g : Bool) (x z : Int) (hf : (⟨i, a, y, d, q, p, f, ph, m, r, v, g⟩ : Or).fine) (w : World) : Calls Try.prog 15 #[.agg #[.int .i64 i, .int .i64 a, .int .i64 y, .int .i64 d, .int .i64 q, .int .i64 p, .int .i64 f, .int .i64 ph, .int .i64 m, .int .i64 r, .int .i64 v, .bool g], .int .i64 x, .int .i64 z] w fun e w' => e = .returned (.tuple #[.agg (oc (change ⟨i, a, y, d, q, p, f, ph, m, r, v, g⟩ x z).1), .int .i64 (change ⟨i, a, y, d, q, p, f, ph, m, r, v, g⟩ x z).2]) ∧ Below w.heap.size w w' := by
  obtain ⟨W0, HW0⟩ : ∃ W, Hid (((w.alloc (.cells #[.int .i64 i, .int .i64 a, .int .i64 y, .int .i64 d, .int .i64 q, .int .i64 p, .int .i64 f, .int .i64 ph, .int .i64 m, .int .i64 r, .int .i64 v, .bool g] 23)).alloc (.cells #[.int .i64 0, .int .i64 0, .int .i64 0, .int .i64 0, .int .i64 0, .int .i64 0, .int .i64 0, .int .i64 0, .int .i64 0, .int .i64 0, .int .i64 0, .bool false] 23)) = W) := ⟨_, Lib.hid rfl⟩
  have HBW : Hid (Below w.heap.size w W0) := Lib.hid (by rw [← HW0.out]; exact ((Below.refl _ _).alloc (by simp) _).alloc (by simp; try omega) _)
  have HX0 : Hid (∀ W, Below W0.heap.size W0 W → W.heap[w.heap.size]? = some (.cells #[.int .i64 i, .int .i64 a, .int .i64 y, .int .i64 d, .int .i64 q, .int .i64 p, .int .i64 f, .int .i64 ph, .int .i64 m, .int .i64 r, .int .i64 v, .bool g] 23 (0, 0))) := Lib.hid (fun W hb => (hb.block _ (by rw [← HW0.out]; simp; try omega)).trans (by rw [← HW0.out]; refine (Below.heap_alloc _ _ _ (by simp; try omega)).trans ?_; have := heap_alloc_new w (.cells #[.int .i64 i, .int .i64 a, .int .i64 y, .int .i64 d, .int .i64 q, .int .i64 p, .int .i64 f, .int .i64 ph, .int .i64 m, .int .i64 r, .int .i64 v, .bool g] 23); exact this))
  have HX1 : Hid (∀ W, Below W0.heap.size W0 W → W.heap[w.heap.size + 1]? = some (.cells #[.int .i64 0, .int .i64 0, .int .i64 0, .int .i64 0, .int .i64 0, .int .i64 0, .int .i64 0, .int .i64 0, .int .i64 0, .int .i64 0, .int .i64 0, .bool false] 23 (0, 0))) := Lib.hid (fun W hb => (hb.block _ (by rw [← HW0.out]; simp; try omega)).trans (by rw [← HW0.out]; have := heap_alloc_new (w.alloc (.cells #[.int .i64 i, .int .i64 a, .int .i64 y, .int .i64 d, .int .i64 q, .int .i64 p, .int .i64 f, .int .i64 ph, .int .i64 m, .int .i64 r, .int .i64 v, .bool g] 23)) (.cells #[.int .i64 0, .int .i64 0, .int .i64 0, .int .i64 0, .int .i64 0, .int .i64 0, .int .i64 0, .int .i64 0, .int .i64 0, .int .i64 0, .int .i64 0, .bool false] 23); simp only [World.size_alloc] at this; exact this))
  have HF := Lib.hid hf
  obtain ⟨u, HU⟩ : ∃ u, Hid (change ⟨i, a, y, d, q, p, f, ph, m, r, v, g⟩ x z = u) := ⟨_, Lib.hid rfl⟩
  rw [HU.out]
  have hvr := hf.2.2.2.2.2.2.2.2.2.2
  unfold frame.inR at hvr
  simp only at hvr
  clear hf
  go_enter Try.func15, Try.ntmps15
  go_upto_region 1 with fail
  rw [HW0.out]
  obtain ⟨k_0, k_1, k_2, k_3, k_4, k_5, k_6, k_7, k_8, k_9, k_10, k_11⟩ := cells12 (HX0.out W0 (Below.refl _ _))
  rcases eq_cases v 9223372036854775807 with ⟨HV0, hv0, hv1⟩ | ⟨HV0, hv0, hv1⟩
  · obtain rfl : v = 9223372036854775807 := HV0.out
    obtain ⟨c, HC⟩ : ∃ x, Hid (right ⟨i, a, y, d, q, p, f, ph, m, r, 9223372036854775807, g⟩ = x) := ⟨_, Lib.hid rfl⟩
    go_wp2_with fail
    refine Calls.mono (num.add_over 9223372036854775807 1 _ (by unfold inI; omega) (by unfold inI; omega) (by unfold inI; omega)) ?_
    rintro e0 w9 ⟨rfl, rfl⟩
    go_wp2_with fail
    refine Calls.mono (right_is i a y d q p f ph m r 9223372036854775807 g HF.out HC.out _) ?_
    rintro e1 W1 ⟨rfl, hb⟩
    have HB0_1 : Hid (Below W0.heap.size W0 W1) := Lib.hid (hb)
    clear hb
    clear k_0 k_1 k_2 k_3 k_4 k_5 k_6 k_7 k_8 k_9 k_10 k_11
    rcases c with _ | _
    · have hu : u = (⟨i, a, y, d, q, p, f, ph, m, r, 9223372036854775807, g⟩, 1) := by rw [← HU.out]; unfold change; rw [HC.out]; simp []
      subst hu
      clear HU
      have hwh : World.whole W1 (w.heap.size + 1) 12 23 := whole_of (HX1.out W1 HB0_1.out) rfl
      obtain ⟨k_0, k_1, k_2, k_3, k_4, k_5, k_6, k_7, k_8, k_9, k_10, k_11⟩ := cells12 (HX0.out W1 HB0_1.out)
      go_wp2_with (refine wpList_store_whole 23 (.tmp 6) (.tmp 31) (w.heap.size + 1) 12 _ 23 (by rfl) (by rfl) hwh (by rfl) (by kernel_rfl) (by kernel_rfl) ?_)
      obtain ⟨v0, v1, v2, v3, v4, v5, v6, v7, v8, v9, v10, v11⟩ := cells12 (setAll_self (vs := #[.int .i64 i, .int .i64 a, .int .i64 y, .int .i64 d, .int .i64 q, .int .i64 p, .int .i64 f, .int .i64 ph, .int .i64 m, .int .i64 r, .int .i64 9223372036854775807, .bool g]) hwh rfl)
      exact bodyPost_ret (v := .tuple #[.agg #[.int .i64 i, .int .i64 a, .int .i64 y, .int .i64 d, .int .i64 q, .int .i64 p, .int .i64 f, .int .i64 ph, .int .i64 m, .int .i64 r, .int .i64 9223372036854775807, .bool g], .int .i64 1]) (by simp [results, Try.results15, go_sem, v0, v1, v2, v3, v4, v5, v6, v7, v8, v9, v10, v11]) rfl ⟨rfl, setAll_below (HBW.out.trans (HB0_1.out.mono HBW.out.size)) (by omega)⟩
    · by_cases hl1 : x < 1
      · have hu : u = (⟨i, a, y, d, q, p, f, ph, m, r, 9223372036854775807, g⟩, 1) := by rw [← HU.out]; unfold change; rw [HC.out]; simp [hl1]
        subst hu
        clear HU
        have hwh : World.whole W1 (w.heap.size + 1) 12 23 := whole_of (HX1.out W1 HB0_1.out) rfl
        obtain ⟨k_0, k_1, k_2, k_3, k_4, k_5, k_6, k_7, k_8, k_9, k_10, k_11⟩ := cells12 (HX0.out W1 HB0_1.out)
        go_wp2_with (refine wpList_store_whole 23 (.tmp 6) (.tmp 31) (w.heap.size + 1) 12 _ 23 (by rfl) (by rfl) hwh (by rfl) (by kernel_rfl) (by kernel_rfl) ?_)
        obtain ⟨v0, v1, v2, v3, v4, v5, v6, v7, v8, v9, v10, v11⟩ := cells12 (setAll_self (vs := #[.int .i64 i, .int .i64 a, .int .i64 y, .int .i64 d, .int .i64 q, .int .i64 p, .int .i64 f, .int .i64 ph, .int .i64 m, .int .i64 r, .int .i64 9223372036854775807, .bool g]) hwh rfl)
        exact bodyPost_ret (v := .tuple #[.agg #[.int .i64 i, .int .i64 a, .int .i64 y, .int .i64 d, .int .i64 q, .int .i64 p, .int .i64 f, .int .i64 ph, .int .i64 m, .int .i64 r, .int .i64 9223372036854775807, .bool g], .int .i64 1]) (by simp [results, Try.results15, go_sem, v0, v1, v2, v3, v4, v5, v6, v7, v8, v9, v10, v11]) rfl ⟨rfl, setAll_below (HBW.out.trans (HB0_1.out.mono HBW.out.size)) (by omega)⟩
      · have hn1 : 1 ≤ x := by omega
        by_cases hl2 : z < 1
        · have hu : u = (⟨i, a, y, d, q, p, f, ph, m, r, 9223372036854775807, g⟩, 1) := by rw [← HU.out]; unfold change; rw [HC.out]; simp [hl1, hl2]
          subst hu
          clear HU
          have hwh : World.whole W1 (w.heap.size + 1) 12 23 := whole_of (HX1.out W1 HB0_1.out) rfl
          obtain ⟨k_0, k_1, k_2, k_3, k_4, k_5, k_6, k_7, k_8, k_9, k_10, k_11⟩ := cells12 (HX0.out W1 HB0_1.out)
          go_wp2_with (refine wpList_store_whole 23 (.tmp 6) (.tmp 31) (w.heap.size + 1) 12 _ 23 (by rfl) (by rfl) hwh (by rfl) (by kernel_rfl) (by kernel_rfl) ?_)
          obtain ⟨v0, v1, v2, v3, v4, v5, v6, v7, v8, v9, v10, v11⟩ := cells12 (setAll_self (vs := #[.int .i64 i, .int .i64 a, .int .i64 y, .int .i64 d, .int .i64 q, .int .i64 p, .int .i64 f, .int .i64 ph, .int .i64 m, .int .i64 r, .int .i64 9223372036854775807, .bool g]) hwh rfl)
          exact bodyPost_ret (v := .tuple #[.agg #[.int .i64 i, .int .i64 a, .int .i64 y, .int .i64 d, .int .i64 q, .int .i64 p, .int .i64 f, .int .i64 ph, .int .i64 m, .int .i64 r, .int .i64 9223372036854775807, .bool g], .int .i64 1]) (by simp [results, Try.results15, go_sem, v0, v1, v2, v3, v4, v5, v6, v7, v8, v9, v10, v11]) rfl ⟨rfl, setAll_below (HBW.out.trans (HB0_1.out.mono HBW.out.size)) (by omega)⟩
        · have hn2 : 1 ≤ z := by omega
          have hu : u = (⟨i, a, y, d, q, p, f, ph, m, r, 9223372036854775807, g⟩, 1) := by rw [← HU.out]; unfold change; rw [HC.out]; simp []
          subst hu
          clear HU
          have hwh : World.whole W1 (w.heap.size + 1) 12 23 := whole_of (HX1.out W1 HB0_1.out) rfl
          obtain ⟨k_0, k_1, k_2, k_3, k_4, k_5, k_6, k_7, k_8, k_9, k_10, k_11⟩ := cells12 (HX0.out W1 HB0_1.out)
          go_wp2_with (refine wpList_store_whole 23 (.tmp 6) (.tmp 31) (w.heap.size + 1) 12 _ 23 (by rfl) (by rfl) hwh (by rfl) (by kernel_rfl) (by kernel_rfl) ?_)
          obtain ⟨v0, v1, v2, v3, v4, v5, v6, v7, v8, v9, v10, v11⟩ := cells12 (setAll_self (vs := #[.int .i64 i, .int .i64 a, .int .i64 y, .int .i64 d, .int .i64 q, .int .i64 p, .int .i64 f, .int .i64 ph, .int .i64 m, .int .i64 r, .int .i64 9223372036854775807, .bool g]) hwh rfl)
          exact bodyPost_ret (v := .tuple #[.agg #[.int .i64 i, .int .i64 a, .int .i64 y, .int .i64 d, .int .i64 q, .int .i64 p, .int .i64 f, .int .i64 ph, .int .i64 m, .int .i64 r, .int .i64 9223372036854775807, .bool g], .int .i64 1]) (by simp [results, Try.results15, go_sem, v0, v1, v2, v3, v4, v5, v6, v7, v8, v9, v10, v11]) rfl ⟨rfl, setAll_below (HBW.out.trans (HB0_1.out.mono HBW.out.size)) (by omega)⟩
  · have hvi : inI v := by unfold inI; omega
    have hvs : inI (v + 1) := by have := HV0.out; unfold inI; omega
    obtain ⟨c, HC⟩ : ∃ x, Hid (right ⟨i, a, y, d, q, p, f, ph, m, r, v, g⟩ = x) := ⟨_, Lib.hid rfl⟩
    go_wp2_with fail
    refine Calls.mono (num.add_is v 1 (v + 1) _ hvi (by unfold inI; omega) hvs rfl) ?_
    rintro e0 w9 ⟨rfl, rfl⟩
    go_wp2_with fail
    refine Calls.mono (right_is i a y d q p f ph m r v g HF.out HC.out _) ?_
    rintro e1 W1 ⟨rfl, hb⟩
    have HB0_1 : Hid (Below W0.heap.size W0 W1) := Lib.hid (hb)
    clear hb
    clear k_0 k_1 k_2 k_3 k_4 k_5 k_6 k_7 k_8 k_9 k_10 k_11
    rcases c with _ | _
    · have hu : u = (⟨i, a, y, d, q, p, f, ph, m, r, v, g⟩, 1) := by rw [← HU.out]; unfold change; rw [HC.out]; simp []
      subst hu
      clear HU
      have hwh : World.whole W1 (w.heap.size + 1) 12 23 := whole_of (HX1.out W1 HB0_1.out) rfl
      obtain ⟨k_0, k_1, k_2, k_3, k_4, k_5, k_6, k_7, k_8, k_9, k_10, k_11⟩ := cells12 (HX0.out W1 HB0_1.out)
      go_wp2_with (refine wpList_store_whole 23 (.tmp 6) (.tmp 31) (w.heap.size + 1) 12 _ 23 (by rfl) (by rfl) hwh (by rfl) (by kernel_rfl) (by kernel_rfl) ?_)
      obtain ⟨v0, v1, v2, v3, v4, v5, v6, v7, v8, v9, v10, v11⟩ := cells12 (setAll_self (vs := #[.int .i64 i, .int .i64 a, .int .i64 y, .int .i64 d, .int .i64 q, .int .i64 p, .int .i64 f, .int .i64 ph, .int .i64 m, .int .i64 r, .int .i64 v, .bool g]) hwh rfl)
      exact bodyPost_ret (v := .tuple #[.agg #[.int .i64 i, .int .i64 a, .int .i64 y, .int .i64 d, .int .i64 q, .int .i64 p, .int .i64 f, .int .i64 ph, .int .i64 m, .int .i64 r, .int .i64 v, .bool g], .int .i64 1]) (by simp [results, Try.results15, go_sem, v0, v1, v2, v3, v4, v5, v6, v7, v8, v9, v10, v11]) rfl ⟨rfl, setAll_below (HBW.out.trans (HB0_1.out.mono HBW.out.size)) (by omega)⟩
    · by_cases hl3 : x < 1
      · have hu : u = (⟨i, a, y, d, q, p, f, ph, m, r, v, g⟩, 1) := by rw [← HU.out]; unfold change; rw [HC.out]; simp [hl3]
        subst hu
        clear HU
        have hwh : World.whole W1 (w.heap.size + 1) 12 23 := whole_of (HX1.out W1 HB0_1.out) rfl
        obtain ⟨k_0, k_1, k_2, k_3, k_4, k_5, k_6, k_7, k_8, k_9, k_10, k_11⟩ := cells12 (HX0.out W1 HB0_1.out)
        go_wp2_with (refine wpList_store_whole 23 (.tmp 6) (.tmp 31) (w.heap.size + 1) 12 _ 23 (by rfl) (by rfl) hwh (by rfl) (by kernel_rfl) (by kernel_rfl) ?_)
        obtain ⟨v0, v1, v2, v3, v4, v5, v6, v7, v8, v9, v10, v11⟩ := cells12 (setAll_self (vs := #[.int .i64 i, .int .i64 a, .int .i64 y, .int .i64 d, .int .i64 q, .int .i64 p, .int .i64 f, .int .i64 ph, .int .i64 m, .int .i64 r, .int .i64 v, .bool g]) hwh rfl)
        exact bodyPost_ret (v := .tuple #[.agg #[.int .i64 i, .int .i64 a, .int .i64 y, .int .i64 d, .int .i64 q, .int .i64 p, .int .i64 f, .int .i64 ph, .int .i64 m, .int .i64 r, .int .i64 v, .bool g], .int .i64 1]) (by simp [results, Try.results15, go_sem, v0, v1, v2, v3, v4, v5, v6, v7, v8, v9, v10, v11]) rfl ⟨rfl, setAll_below (HBW.out.trans (HB0_1.out.mono HBW.out.size)) (by omega)⟩
      · have hn3 : 1 ≤ x := by omega
        by_cases hl4 : z < 1
        · have hu : u = (⟨i, a, y, d, q, p, f, ph, m, r, v, g⟩, 1) := by rw [← HU.out]; unfold change; rw [HC.out]; simp [hl3, hl4]
          subst hu
          clear HU
          have hwh : World.whole W1 (w.heap.size + 1) 12 23 := whole_of (HX1.out W1 HB0_1.out) rfl
          obtain ⟨k_0, k_1, k_2, k_3, k_4, k_5, k_6, k_7, k_8, k_9, k_10, k_11⟩ := cells12 (HX0.out W1 HB0_1.out)
          go_wp2_with (refine wpList_store_whole 23 (.tmp 6) (.tmp 31) (w.heap.size + 1) 12 _ 23 (by rfl) (by rfl) hwh (by rfl) (by kernel_rfl) (by kernel_rfl) ?_)
          obtain ⟨v0, v1, v2, v3, v4, v5, v6, v7, v8, v9, v10, v11⟩ := cells12 (setAll_self (vs := #[.int .i64 i, .int .i64 a, .int .i64 y, .int .i64 d, .int .i64 q, .int .i64 p, .int .i64 f, .int .i64 ph, .int .i64 m, .int .i64 r, .int .i64 v, .bool g]) hwh rfl)
          exact bodyPost_ret (v := .tuple #[.agg #[.int .i64 i, .int .i64 a, .int .i64 y, .int .i64 d, .int .i64 q, .int .i64 p, .int .i64 f, .int .i64 ph, .int .i64 m, .int .i64 r, .int .i64 v, .bool g], .int .i64 1]) (by simp [results, Try.results15, go_sem, v0, v1, v2, v3, v4, v5, v6, v7, v8, v9, v10, v11]) rfl ⟨rfl, setAll_below (HBW.out.trans (HB0_1.out.mono HBW.out.size)) (by omega)⟩
        · have hn4 : 1 ≤ z := by omega
          rcases eq_cases ph 2 with ⟨HE5, he5, hf5⟩ | ⟨HE5, he5, hf5⟩
          · obtain ⟨g0, HG⟩ : ∃ x, Hid (pend m = x) := ⟨_, Lib.hid rfl⟩
            obtain ⟨k_0, k_1, k_2, k_3, k_4, k_5, k_6, k_7, k_8, k_9, k_10, k_11⟩ := cells12 (HX0.out W1 HB0_1.out)
            go_wp2_with fail
            refine Calls.mono (pend_is _ _ _ _ _ _ _ _ _ _ _ _ HG.out _) ?_
            rintro e2 W2 ⟨rfl, hb⟩
            have HB0_2 : Hid (Below W0.heap.size W0 W2) := Lib.hid (HB0_1.out.trans ((hb : Below W1.heap.size W1 W2).mono HB0_1.out.size))
            have HB1_2 : Hid (Below W1.heap.size W1 W2) := Lib.hid (hb)
            clear hb
            clear k_0 k_1 k_2 k_3 k_4 k_5 k_6 k_7 k_8 k_9 k_10 k_11
            have hg := HG.out
            simp only [pend] at hg
            rcases g0 with _ | _
            · simp at hg
              obtain rfl : m = 0 := hg
              cases g
              · have hu : u = (⟨i, a, y, d, q, p, f, ph, x, z, v + 1, false⟩, 0) := by rw [← HU.out]; unfold change; rw [HC.out]; simp [(show ¬ x < 1 by omega), (show ¬ z < 1 by omega), HV0.out, HE5.out]
                subst hu
                clear HU
                obtain ⟨k_0, k_1, k_2, k_3, k_4, k_5, k_6, k_7, k_8, k_9, k_10, k_11⟩ := cells12 (HX0.out W2 HB0_2.out)
                have z8 := (block_cell (HX0.out W2 HB0_2.out) 8 (.int .i64 0) rfl).2
                have z9 := (block_cell (HX0.out W2 HB0_2.out) 9 (.int .i64 r) rfl).2
                have z10 := (block_cell (HX0.out W2 HB0_2.out) 10 (.int .i64 v) rfl).2
                go_upto_region 7 with fail
                have hS0 : W2.heap[w.heap.size]? = some (.cells #[.int .i64 i, .int .i64 a, .int .i64 y, .int .i64 d, .int .i64 q, .int .i64 p, .int .i64 f, .int .i64 ph, .int .i64 0, .int .i64 r, .int .i64 v, .bool false] 23 (0, 0)) := HX0.out W2 HB0_2.out
                have hS1 : (W2.setCell ⟨w.heap.size, 8, none⟩ (.int .i64 x)).heap[w.heap.size]? = some (.cells #[.int .i64 i, .int .i64 a, .int .i64 y, .int .i64 d, .int .i64 q, .int .i64 p, .int .i64 f, .int .i64 ph, .int .i64 x, .int .i64 r, .int .i64 v, .bool false] 23 (0, 0)) := by have := heap_setCell_same W2 (w.heap.size) 8 _ 23 (.int .i64 x) hS0; simpa using this
                have hS2 : ((W2.setCell ⟨w.heap.size, 8, none⟩ (.int .i64 x)).setCell ⟨w.heap.size, 9, none⟩ (.int .i64 z)).heap[w.heap.size]? = some (.cells #[.int .i64 i, .int .i64 a, .int .i64 y, .int .i64 d, .int .i64 q, .int .i64 p, .int .i64 f, .int .i64 ph, .int .i64 x, .int .i64 z, .int .i64 v, .bool false] 23 (0, 0)) := by have := heap_setCell_same (W2.setCell ⟨w.heap.size, 8, none⟩ (.int .i64 x)) (w.heap.size) 9 _ 23 (.int .i64 z) hS1; simpa using this
                have hS3 : (((W2.setCell ⟨w.heap.size, 8, none⟩ (.int .i64 x)).setCell ⟨w.heap.size, 9, none⟩ (.int .i64 z)).setCell ⟨w.heap.size, 10, none⟩ (.int .i64 (v + 1))).heap[w.heap.size]? = some (.cells #[.int .i64 i, .int .i64 a, .int .i64 y, .int .i64 d, .int .i64 q, .int .i64 p, .int .i64 f, .int .i64 ph, .int .i64 x, .int .i64 z, .int .i64 (v + 1), .bool false] 23 (0, 0)) := by have := heap_setCell_same ((W2.setCell ⟨w.heap.size, 8, none⟩ (.int .i64 x)).setCell ⟨w.heap.size, 9, none⟩ (.int .i64 z)) (w.heap.size) 10 _ 23 (.int .i64 (v + 1)) hS2; simpa using this
                obtain ⟨W3, hW3⟩ : ∃ W, W = (((W2.setCell ⟨w.heap.size, 8, none⟩ (.int .i64 x)).setCell ⟨w.heap.size, 9, none⟩ (.int .i64 z)).setCell ⟨w.heap.size, 10, none⟩ (.int .i64 (v + 1))) := ⟨_, rfl⟩
                rw [← hW3]
                rw [← hW3] at hS3
                have HBS : Hid (Below w.heap.size w W3) := Lib.hid (by rw [hW3]; exact (((HBW.out.trans (HB0_2.out.mono HBW.out.size)).setCell (p := ⟨w.heap.size, 8, none⟩) (by simp) _).setCell (p := ⟨w.heap.size, 9, none⟩) (by simp) _).setCell (p := ⟨w.heap.size, 10, none⟩) (by simp) _)
                have hRz : W3.heap[w.heap.size + 1]? = some (.cells #[.int .i64 0, .int .i64 0, .int .i64 0, .int .i64 0, .int .i64 0, .int .i64 0, .int .i64 0, .int .i64 0, .int .i64 0, .int .i64 0, .int .i64 0, .bool false] 23 (0, 0)) := by rw [hW3]; exact (Below.heap_setCell _ _ _ _ (by simp; try omega)).trans ((Below.heap_setCell _ _ _ _ (by simp; try omega)).trans ((Below.heap_setCell _ _ _ _ (by simp; try omega)).trans ((HX1.out W2 HB0_2.out))))
                have hsz : W3.heap.size = W2.heap.size := by rw [hW3]; simp
                have hS : W3.heap[w.heap.size]? = some (.cells #[.int .i64 i, .int .i64 a, .int .i64 y, .int .i64 d, .int .i64 q, .int .i64 p, .int .i64 f, .int .i64 ph, .int .i64 x, .int .i64 z, .int .i64 (v + 1), .bool false] 23 (0, 0)) := hS3
                clear hW3 hS0 hS1 hS2 hS3
                clear z8 z9 z10 k_0 k_1 k_2 k_3 k_4 k_5 k_6 k_7 k_8 k_9 k_10 k_11
                have hwh : World.whole W3 (w.heap.size + 1) 12 23 := whole_of hRz rfl
                obtain ⟨c0, c1, c2, c3, c4, c5, c6, c7, c8, c9, c10, c11⟩ := cells12 hS
                go_wp2_with (refine wpList_store_whole 23 (.tmp 6) (.tmp 50) (w.heap.size + 1) 12 _ 23 (by rfl) (by rfl) hwh (by rfl) (by kernel_rfl) (by kernel_rfl) ?_)
                obtain ⟨v0, v1, v2, v3, v4, v5, v6, v7, v8, v9, v10, v11⟩ := cells12 (setAll_self (vs := #[.int .i64 i, .int .i64 a, .int .i64 y, .int .i64 d, .int .i64 q, .int .i64 p, .int .i64 f, .int .i64 ph, .int .i64 x, .int .i64 z, .int .i64 (v + 1), .bool false]) hwh rfl)
                exact bodyPost_ret (v := .tuple #[.agg #[.int .i64 i, .int .i64 a, .int .i64 y, .int .i64 d, .int .i64 q, .int .i64 p, .int .i64 f, .int .i64 ph, .int .i64 x, .int .i64 z, .int .i64 (v + 1), .bool false], .int .i64 0]) (by simp [results, Try.results15, go_sem, v0, v1, v2, v3, v4, v5, v6, v7, v8, v9, v10, v11]) rfl ⟨rfl, setAll_below (HBS.out) (by omega)⟩
              · have hu : u = (⟨i, a, y, d, q, p, f, ph, 0, r, v, true⟩, 8) := by rw [← HU.out]; unfold change; rw [HC.out]; simp [(show ¬ x < 1 by omega), (show ¬ z < 1 by omega), HV0.out, HE5.out]
                subst hu
                clear HU
                have hwh : World.whole W2 (w.heap.size + 1) 12 23 := whole_of (HX1.out W2 HB0_2.out) rfl
                obtain ⟨k_0, k_1, k_2, k_3, k_4, k_5, k_6, k_7, k_8, k_9, k_10, k_11⟩ := cells12 (HX0.out W2 HB0_2.out)
                go_wp2_with (refine wpList_store_whole 23 (.tmp 6) (.tmp 43) (w.heap.size + 1) 12 _ 23 (by rfl) (by rfl) hwh (by rfl) (by kernel_rfl) (by kernel_rfl) ?_)
                obtain ⟨v0, v1, v2, v3, v4, v5, v6, v7, v8, v9, v10, v11⟩ := cells12 (setAll_self (vs := #[.int .i64 i, .int .i64 a, .int .i64 y, .int .i64 d, .int .i64 q, .int .i64 p, .int .i64 f, .int .i64 ph, .int .i64 0, .int .i64 r, .int .i64 v, .bool true]) hwh rfl)
                exact bodyPost_ret (v := .tuple #[.agg #[.int .i64 i, .int .i64 a, .int .i64 y, .int .i64 d, .int .i64 q, .int .i64 p, .int .i64 f, .int .i64 ph, .int .i64 0, .int .i64 r, .int .i64 v, .bool true], .int .i64 8]) (by simp [results, Try.results15, go_sem, v0, v1, v2, v3, v4, v5, v6, v7, v8, v9, v10, v11]) rfl ⟨rfl, setAll_below (HBW.out.trans (HB0_2.out.mono HBW.out.size)) (by omega)⟩
            · simp at hg
              have hu : u = (⟨i, a, y, d, q, p, f, ph, m, r, v, g⟩, 8) := by rw [← HU.out]; unfold change; rw [HC.out]; simp [(show ¬ x < 1 by omega), (show ¬ z < 1 by omega), HV0.out, HE5.out, hg]
              subst hu
              clear HU
              have hwh : World.whole W2 (w.heap.size + 1) 12 23 := whole_of (HX1.out W2 HB0_2.out) rfl
              obtain ⟨k_0, k_1, k_2, k_3, k_4, k_5, k_6, k_7, k_8, k_9, k_10, k_11⟩ := cells12 (HX0.out W2 HB0_2.out)
              go_wp2_with (refine wpList_store_whole 23 (.tmp 6) (.tmp 43) (w.heap.size + 1) 12 _ 23 (by rfl) (by rfl) hwh (by rfl) (by kernel_rfl) (by kernel_rfl) ?_)
              obtain ⟨v0, v1, v2, v3, v4, v5, v6, v7, v8, v9, v10, v11⟩ := cells12 (setAll_self (vs := #[.int .i64 i, .int .i64 a, .int .i64 y, .int .i64 d, .int .i64 q, .int .i64 p, .int .i64 f, .int .i64 ph, .int .i64 m, .int .i64 r, .int .i64 v, .bool g]) hwh rfl)
              exact bodyPost_ret (v := .tuple #[.agg #[.int .i64 i, .int .i64 a, .int .i64 y, .int .i64 d, .int .i64 q, .int .i64 p, .int .i64 f, .int .i64 ph, .int .i64 m, .int .i64 r, .int .i64 v, .bool g], .int .i64 8]) (by simp [results, Try.results15, go_sem, v0, v1, v2, v3, v4, v5, v6, v7, v8, v9, v10, v11]) rfl ⟨rfl, setAll_below (HBW.out.trans (HB0_2.out.mono HBW.out.size)) (by omega)⟩
          · have hu : u = (⟨i, a, y, d, q, p, f, ph, m, r, v, g⟩, 8) := by rw [← HU.out]; unfold change; rw [HC.out]; simp [(show ¬ x < 1 by omega), (show ¬ z < 1 by omega), HV0.out, HE5.out]
            subst hu
            clear HU
            have hwh : World.whole W1 (w.heap.size + 1) 12 23 := whole_of (HX1.out W1 HB0_1.out) rfl
            obtain ⟨k_0, k_1, k_2, k_3, k_4, k_5, k_6, k_7, k_8, k_9, k_10, k_11⟩ := cells12 (HX0.out W1 HB0_1.out)
            go_wp2_with (refine wpList_store_whole 23 (.tmp 6) (.tmp 43) (w.heap.size + 1) 12 _ 23 (by rfl) (by rfl) hwh (by rfl) (by kernel_rfl) (by kernel_rfl) ?_)
            obtain ⟨v0, v1, v2, v3, v4, v5, v6, v7, v8, v9, v10, v11⟩ := cells12 (setAll_self (vs := #[.int .i64 i, .int .i64 a, .int .i64 y, .int .i64 d, .int .i64 q, .int .i64 p, .int .i64 f, .int .i64 ph, .int .i64 m, .int .i64 r, .int .i64 v, .bool g]) hwh rfl)
            exact bodyPost_ret (v := .tuple #[.agg #[.int .i64 i, .int .i64 a, .int .i64 y, .int .i64 d, .int .i64 q, .int .i64 p, .int .i64 f, .int .i64 ph, .int .i64 m, .int .i64 r, .int .i64 v, .bool g], .int .i64 8]) (by simp [results, Try.results15, go_sem, v0, v1, v2, v3, v4, v5, v6, v7, v8, v9, v10, v11]) rfl ⟨rfl, setAll_below (HBW.out.trans (HB0_1.out.mono HBW.out.size)) (by omega)⟩

theorem change_is (i a y d q p f ph m r v : Int) (g : Bool) (x z : Int) {i' a' y' d' q' p' f' ph' m' r' v' : Int} {g' : Bool} {e : Int} (hf : (⟨i, a, y, d, q, p, f, ph, m, r, v, g⟩ : Or).fine) (hxz : frame.inR x ∧ frame.inR z) (h : change ⟨i, a, y, d, q, p, f, ph, m, r, v, g⟩ x z = (⟨i', a', y', d', q', p', f', ph', m', r', v', g'⟩, e)) (w : World) : Calls Try.prog 15 #[.agg #[.int .i64 i, .int .i64 a, .int .i64 y, .int .i64 d, .int .i64 q, .int .i64 p, .int .i64 f, .int .i64 ph, .int .i64 m, .int .i64 r, .int .i64 v, .bool g], .int .i64 x, .int .i64 z] w fun e' w' => e' = .returned (.tuple #[.agg #[.int .i64 i', .int .i64 a', .int .i64 y', .int .i64 d', .int .i64 q', .int .i64 p', .int .i64 f', .int .i64 ph', .int .i64 m', .int .i64 r', .int .i64 v', .bool g'], .int .i64 e]) ∧ Below w.heap.size w w' := by
  have key := change_any i a y d q p f ph m r v g x z hf w
  rw [h] at key
  exact key

theorem stop_any (i a y d q p f ph m r v : Int) (g : Bool) (hf : (⟨i, a, y, d, q, p, f, ph, m, r, v, g⟩ : Or).fine) (w : World) : Calls Try.prog 17 #[.agg #[.int .i64 i, .int .i64 a, .int .i64 y, .int .i64 d, .int .i64 q, .int .i64 p, .int .i64 f, .int .i64 ph, .int .i64 m, .int .i64 r, .int .i64 v, .bool g]] w fun e w' => e = .returned (.tuple #[.agg (oc (stop ⟨i, a, y, d, q, p, f, ph, m, r, v, g⟩).1), .int .i64 (stop ⟨i, a, y, d, q, p, f, ph, m, r, v, g⟩).2]) ∧ Below w.heap.size w w' := by
  obtain ⟨W0, HW0⟩ : ∃ W, Hid (((w.alloc (.cells #[.int .i64 i, .int .i64 a, .int .i64 y, .int .i64 d, .int .i64 q, .int .i64 p, .int .i64 f, .int .i64 ph, .int .i64 m, .int .i64 r, .int .i64 v, .bool g] 23)).alloc (.cells #[.int .i64 0, .int .i64 0, .int .i64 0, .int .i64 0, .int .i64 0, .int .i64 0, .int .i64 0, .int .i64 0, .int .i64 0, .int .i64 0, .int .i64 0, .bool false] 23)) = W) := ⟨_, Lib.hid rfl⟩
  have HBW : Hid (Below w.heap.size w W0) := Lib.hid (by rw [← HW0.out]; exact ((Below.refl _ _).alloc (by simp) _).alloc (by simp; try omega) _)
  have HX0 : Hid (∀ W, Below W0.heap.size W0 W → W.heap[w.heap.size]? = some (.cells #[.int .i64 i, .int .i64 a, .int .i64 y, .int .i64 d, .int .i64 q, .int .i64 p, .int .i64 f, .int .i64 ph, .int .i64 m, .int .i64 r, .int .i64 v, .bool g] 23 (0, 0))) := Lib.hid (fun W hb => (hb.block _ (by rw [← HW0.out]; simp; try omega)).trans (by rw [← HW0.out]; refine (Below.heap_alloc _ _ _ (by simp; try omega)).trans ?_; have := heap_alloc_new w (.cells #[.int .i64 i, .int .i64 a, .int .i64 y, .int .i64 d, .int .i64 q, .int .i64 p, .int .i64 f, .int .i64 ph, .int .i64 m, .int .i64 r, .int .i64 v, .bool g] 23); exact this))
  have HX1 : Hid (∀ W, Below W0.heap.size W0 W → W.heap[w.heap.size + 1]? = some (.cells #[.int .i64 0, .int .i64 0, .int .i64 0, .int .i64 0, .int .i64 0, .int .i64 0, .int .i64 0, .int .i64 0, .int .i64 0, .int .i64 0, .int .i64 0, .bool false] 23 (0, 0))) := Lib.hid (fun W hb => (hb.block _ (by rw [← HW0.out]; simp; try omega)).trans (by rw [← HW0.out]; have := heap_alloc_new (w.alloc (.cells #[.int .i64 i, .int .i64 a, .int .i64 y, .int .i64 d, .int .i64 q, .int .i64 p, .int .i64 f, .int .i64 ph, .int .i64 m, .int .i64 r, .int .i64 v, .bool g] 23)) (.cells #[.int .i64 0, .int .i64 0, .int .i64 0, .int .i64 0, .int .i64 0, .int .i64 0, .int .i64 0, .int .i64 0, .int .i64 0, .int .i64 0, .int .i64 0, .bool false] 23); simp only [World.size_alloc] at this; exact this))
  have HF := Lib.hid hf
  obtain ⟨c, HC⟩ : ∃ x, Hid (right ⟨i, a, y, d, q, p, f, ph, m, r, v, g⟩ = x) := ⟨_, Lib.hid rfl⟩
  obtain ⟨u, HU⟩ : ∃ u, Hid (stop ⟨i, a, y, d, q, p, f, ph, m, r, v, g⟩ = u) := ⟨_, Lib.hid rfl⟩
  rw [HU.out]
  clear hf
  go_enter Try.func17, Try.ntmps17
  go_wp2_with fail
  refine Calls.mono (right_is i a y d q p f ph m r v g HF.out HC.out _) ?_
  rintro e1 W1 ⟨rfl, hb⟩
  rw [HW0.out] at hb
  have HB0_1 : Hid (Below W0.heap.size W0 W1) := Lib.hid (hb)
  clear hb
  rcases c with _ | _
  · have hu : u = (⟨i, a, y, d, q, p, f, ph, m, r, v, g⟩, 1) := by rw [← HU.out]; unfold stop; rw [HC.out]; simp []
    subst hu
    clear HU
    have hwh : World.whole W1 (w.heap.size + 1) 12 23 := whole_of (HX1.out W1 HB0_1.out) rfl
    obtain ⟨k_0, k_1, k_2, k_3, k_4, k_5, k_6, k_7, k_8, k_9, k_10, k_11⟩ := cells12 (HX0.out W1 HB0_1.out)
    go_wp2_with (refine wpList_store_whole 23 (.tmp 2) (.tmp 7) (w.heap.size + 1) 12 _ 23 (by rfl) (by rfl) hwh (by rfl) (by kernel_rfl) (by kernel_rfl) ?_)
    obtain ⟨v0, v1, v2, v3, v4, v5, v6, v7, v8, v9, v10, v11⟩ := cells12 (setAll_self (vs := #[.int .i64 i, .int .i64 a, .int .i64 y, .int .i64 d, .int .i64 q, .int .i64 p, .int .i64 f, .int .i64 ph, .int .i64 m, .int .i64 r, .int .i64 v, .bool g]) hwh rfl)
    exact bodyPost_ret (v := .tuple #[.agg #[.int .i64 i, .int .i64 a, .int .i64 y, .int .i64 d, .int .i64 q, .int .i64 p, .int .i64 f, .int .i64 ph, .int .i64 m, .int .i64 r, .int .i64 v, .bool g], .int .i64 1]) (by simp [results, Try.results17, go_sem, v0, v1, v2, v3, v4, v5, v6, v7, v8, v9, v10, v11]) rfl ⟨rfl, setAll_below (HBW.out.trans (HB0_1.out.mono HBW.out.size)) (by omega)⟩
  · cases g
    · rcases eq_cases ph 3 with ⟨HE1, he1, hf1⟩ | ⟨HE1, he1, hf1⟩
      · have hu : u = (⟨i, a, y, d, q, p, f, ph, m, r, v, false⟩, 8) := by rw [← HU.out]; unfold stop; rw [HC.out]; simp [HE1.out]
        subst hu
        clear HU
        have hwh : World.whole W1 (w.heap.size + 1) 12 23 := whole_of (HX1.out W1 HB0_1.out) rfl
        obtain ⟨k_0, k_1, k_2, k_3, k_4, k_5, k_6, k_7, k_8, k_9, k_10, k_11⟩ := cells12 (HX0.out W1 HB0_1.out)
        go_wp2_with (refine wpList_store_whole 23 (.tmp 2) (.tmp 15) (w.heap.size + 1) 12 _ 23 (by rfl) (by rfl) hwh (by rfl) (by kernel_rfl) (by kernel_rfl) ?_)
        obtain ⟨v0, v1, v2, v3, v4, v5, v6, v7, v8, v9, v10, v11⟩ := cells12 (setAll_self (vs := #[.int .i64 i, .int .i64 a, .int .i64 y, .int .i64 d, .int .i64 q, .int .i64 p, .int .i64 f, .int .i64 ph, .int .i64 m, .int .i64 r, .int .i64 v, .bool false]) hwh rfl)
        exact bodyPost_ret (v := .tuple #[.agg #[.int .i64 i, .int .i64 a, .int .i64 y, .int .i64 d, .int .i64 q, .int .i64 p, .int .i64 f, .int .i64 ph, .int .i64 m, .int .i64 r, .int .i64 v, .bool false], .int .i64 8]) (by simp [results, Try.results17, go_sem, v0, v1, v2, v3, v4, v5, v6, v7, v8, v9, v10, v11]) rfl ⟨rfl, setAll_below (HBW.out.trans (HB0_1.out.mono HBW.out.size)) (by omega)⟩
      · have hu : u = (⟨i, a, y, d, q, p, f, ph, m, r, v, true⟩, 0) := by rw [← HU.out]; unfold stop; rw [HC.out]; simp [HE1.out]
        subst hu
        clear HU
        obtain ⟨k_0, k_1, k_2, k_3, k_4, k_5, k_6, k_7, k_8, k_9, k_10, k_11⟩ := cells12 (HX0.out W1 HB0_1.out)
        have z11 := (block_cell (HX0.out W1 HB0_1.out) 11 (.bool false) rfl).2
        go_upto_region 6 with fail
        have hS0 : W1.heap[w.heap.size]? = some (.cells #[.int .i64 i, .int .i64 a, .int .i64 y, .int .i64 d, .int .i64 q, .int .i64 p, .int .i64 f, .int .i64 ph, .int .i64 m, .int .i64 r, .int .i64 v, .bool false] 23 (0, 0)) := HX0.out W1 HB0_1.out
        have hS1 : (W1.setCell ⟨w.heap.size, 11, none⟩ (.bool true)).heap[w.heap.size]? = some (.cells #[.int .i64 i, .int .i64 a, .int .i64 y, .int .i64 d, .int .i64 q, .int .i64 p, .int .i64 f, .int .i64 ph, .int .i64 m, .int .i64 r, .int .i64 v, .bool true] 23 (0, 0)) := by have := heap_setCell_same W1 (w.heap.size) 11 _ 23 (.bool true) hS0; simpa using this
        obtain ⟨W2, hW2⟩ : ∃ W, W = (W1.setCell ⟨w.heap.size, 11, none⟩ (.bool true)) := ⟨_, rfl⟩
        rw [← hW2]
        rw [← hW2] at hS1
        have HBS : Hid (Below w.heap.size w W2) := Lib.hid (by rw [hW2]; exact (HBW.out.trans (HB0_1.out.mono HBW.out.size)).setCell (p := ⟨w.heap.size, 11, none⟩) (Nat.le_refl _) _)
        have hR : W2.heap[w.heap.size + 1]? = some (.cells #[.int .i64 0, .int .i64 0, .int .i64 0, .int .i64 0, .int .i64 0, .int .i64 0, .int .i64 0, .int .i64 0, .int .i64 0, .int .i64 0, .int .i64 0, .bool false] 23 (0, 0)) := by rw [hW2]; exact (Below.heap_setCell _ _ _ _ (by simp)).trans ((HX1.out W1 HB0_1.out))
        have hwh : World.whole W2 (w.heap.size + 1) 12 23 := whole_of hR rfl
        obtain ⟨c0, c1, c2, c3, c4, c5, c6, c7, c8, c9, c10, c11⟩ := cells12 hS1
        clear hR hS0 hS1 hW2
        go_wp2_with (refine wpList_store_whole 23 (.tmp 2) (.tmp 17) (w.heap.size + 1) 12 _ 23 (by rfl) (by rfl) hwh (by rfl) (by kernel_rfl) (by kernel_rfl) ?_)
        obtain ⟨v0, v1, v2, v3, v4, v5, v6, v7, v8, v9, v10, v11⟩ := cells12 (setAll_self (vs := #[.int .i64 i, .int .i64 a, .int .i64 y, .int .i64 d, .int .i64 q, .int .i64 p, .int .i64 f, .int .i64 ph, .int .i64 m, .int .i64 r, .int .i64 v, .bool true]) hwh rfl)
        exact bodyPost_ret (v := .tuple #[.agg #[.int .i64 i, .int .i64 a, .int .i64 y, .int .i64 d, .int .i64 q, .int .i64 p, .int .i64 f, .int .i64 ph, .int .i64 m, .int .i64 r, .int .i64 v, .bool true], .int .i64 0]) (by simp [results, Try.results17, go_sem, v0, v1, v2, v3, v4, v5, v6, v7, v8, v9, v10, v11]) rfl ⟨rfl, setAll_below (HBS.out) (by omega)⟩
    · rcases eq_cases ph 3 with ⟨HE2, he2, hf2⟩ | ⟨HE2, he2, hf2⟩
      · have hu : u = (⟨i, a, y, d, q, p, f, ph, m, r, v, true⟩, 8) := by rw [← HU.out]; unfold stop; rw [HC.out]; simp []
        subst hu
        clear HU
        have hwh : World.whole W1 (w.heap.size + 1) 12 23 := whole_of (HX1.out W1 HB0_1.out) rfl
        obtain ⟨k_0, k_1, k_2, k_3, k_4, k_5, k_6, k_7, k_8, k_9, k_10, k_11⟩ := cells12 (HX0.out W1 HB0_1.out)
        go_wp2_with (refine wpList_store_whole 23 (.tmp 2) (.tmp 15) (w.heap.size + 1) 12 _ 23 (by rfl) (by rfl) hwh (by rfl) (by kernel_rfl) (by kernel_rfl) ?_)
        obtain ⟨v0, v1, v2, v3, v4, v5, v6, v7, v8, v9, v10, v11⟩ := cells12 (setAll_self (vs := #[.int .i64 i, .int .i64 a, .int .i64 y, .int .i64 d, .int .i64 q, .int .i64 p, .int .i64 f, .int .i64 ph, .int .i64 m, .int .i64 r, .int .i64 v, .bool true]) hwh rfl)
        exact bodyPost_ret (v := .tuple #[.agg #[.int .i64 i, .int .i64 a, .int .i64 y, .int .i64 d, .int .i64 q, .int .i64 p, .int .i64 f, .int .i64 ph, .int .i64 m, .int .i64 r, .int .i64 v, .bool true], .int .i64 8]) (by simp [results, Try.results17, go_sem, v0, v1, v2, v3, v4, v5, v6, v7, v8, v9, v10, v11]) rfl ⟨rfl, setAll_below (HBW.out.trans (HB0_1.out.mono HBW.out.size)) (by omega)⟩
      · have hu : u = (⟨i, a, y, d, q, p, f, ph, m, r, v, true⟩, 8) := by rw [← HU.out]; unfold stop; rw [HC.out]; simp []
        subst hu
        clear HU
        have hwh : World.whole W1 (w.heap.size + 1) 12 23 := whole_of (HX1.out W1 HB0_1.out) rfl
        obtain ⟨k_0, k_1, k_2, k_3, k_4, k_5, k_6, k_7, k_8, k_9, k_10, k_11⟩ := cells12 (HX0.out W1 HB0_1.out)
        go_wp2_with (refine wpList_store_whole 23 (.tmp 2) (.tmp 15) (w.heap.size + 1) 12 _ 23 (by rfl) (by rfl) hwh (by rfl) (by kernel_rfl) (by kernel_rfl) ?_)
        obtain ⟨v0, v1, v2, v3, v4, v5, v6, v7, v8, v9, v10, v11⟩ := cells12 (setAll_self (vs := #[.int .i64 i, .int .i64 a, .int .i64 y, .int .i64 d, .int .i64 q, .int .i64 p, .int .i64 f, .int .i64 ph, .int .i64 m, .int .i64 r, .int .i64 v, .bool true]) hwh rfl)
        exact bodyPost_ret (v := .tuple #[.agg #[.int .i64 i, .int .i64 a, .int .i64 y, .int .i64 d, .int .i64 q, .int .i64 p, .int .i64 f, .int .i64 ph, .int .i64 m, .int .i64 r, .int .i64 v, .bool true], .int .i64 8]) (by simp [results, Try.results17, go_sem, v0, v1, v2, v3, v4, v5, v6, v7, v8, v9, v10, v11]) rfl ⟨rfl, setAll_below (HBW.out.trans (HB0_1.out.mono HBW.out.size)) (by omega)⟩

theorem stop_is (i a y d q p f ph m r v : Int) (g : Bool) {i' a' y' d' q' p' f' ph' m' r' v' : Int} {g' : Bool} {e : Int} (hf : (⟨i, a, y, d, q, p, f, ph, m, r, v, g⟩ : Or).fine) (h : stop ⟨i, a, y, d, q, p, f, ph, m, r, v, g⟩ = (⟨i', a', y', d', q', p', f', ph', m', r', v', g'⟩, e)) (w : World) : Calls Try.prog 17 #[.agg #[.int .i64 i, .int .i64 a, .int .i64 y, .int .i64 d, .int .i64 q, .int .i64 p, .int .i64 f, .int .i64 ph, .int .i64 m, .int .i64 r, .int .i64 v, .bool g]] w fun e' w' => e' = .returned (.tuple #[.agg #[.int .i64 i', .int .i64 a', .int .i64 y', .int .i64 d', .int .i64 q', .int .i64 p', .int .i64 f', .int .i64 ph', .int .i64 m', .int .i64 r', .int .i64 v', .bool g'], .int .i64 e]) ∧ Below w.heap.size w w' := by
  have key := stop_any i a y d q p f ph m r v g hf w
  rw [h] at key
  exact key

theorem open_any (i a y d q p f ph m r v : Int) (g : Bool) (hf : (⟨i, a, y, d, q, p, f, ph, m, r, v, g⟩ : Or).fine) (w : World) : Calls Try.prog 21 #[.agg #[.int .i64 i, .int .i64 a, .int .i64 y, .int .i64 d, .int .i64 q, .int .i64 p, .int .i64 f, .int .i64 ph, .int .i64 m, .int .i64 r, .int .i64 v, .bool g]] w fun e w' => e = .returned (.int .i64 (open_ ⟨i, a, y, d, q, p, f, ph, m, r, v, g⟩)) ∧ Below w.heap.size w w' := by
  obtain ⟨W0, HW0⟩ : ∃ W, Hid ((w.alloc (.cells #[.int .i64 i, .int .i64 a, .int .i64 y, .int .i64 d, .int .i64 q, .int .i64 p, .int .i64 f, .int .i64 ph, .int .i64 m, .int .i64 r, .int .i64 v, .bool g] 23)) = W) := ⟨_, Lib.hid rfl⟩
  have HBW : Hid (Below w.heap.size w W0) := Lib.hid (by rw [← HW0.out]; exact (Below.refl _ _).alloc (by simp) _)
  have HX0 : Hid (∀ W, Below W0.heap.size W0 W → W.heap[w.heap.size]? = some (.cells #[.int .i64 i, .int .i64 a, .int .i64 y, .int .i64 d, .int .i64 q, .int .i64 p, .int .i64 f, .int .i64 ph, .int .i64 m, .int .i64 r, .int .i64 v, .bool g] 23 (0, 0))) := Lib.hid (fun W hb => (hb.block _ (by rw [← HW0.out]; simp; try omega)).trans (by rw [← HW0.out]; have := heap_alloc_new w (.cells #[.int .i64 i, .int .i64 a, .int .i64 y, .int .i64 d, .int .i64 q, .int .i64 p, .int .i64 f, .int .i64 ph, .int .i64 m, .int .i64 r, .int .i64 v, .bool g] 23); exact this))
  have HF := Lib.hid hf
  obtain ⟨c, HC⟩ : ∃ x, Hid (right ⟨i, a, y, d, q, p, f, ph, m, r, v, g⟩ = x) := ⟨_, Lib.hid rfl⟩
  obtain ⟨u, HU⟩ : ∃ u, Hid (open_ ⟨i, a, y, d, q, p, f, ph, m, r, v, g⟩ = u) := ⟨_, Lib.hid rfl⟩
  rw [HU.out]
  clear hf
  go_enter Try.func21, Try.ntmps21
  go_wp2_with fail
  refine Calls.mono (right_is i a y d q p f ph m r v g HF.out HC.out _) ?_
  rintro e1 W1 ⟨rfl, hb⟩
  rw [HW0.out] at hb
  have HB0_1 : Hid (Below W0.heap.size W0 W1) := Lib.hid (hb)
  clear hb
  rcases c with _ | _
  · have hu : u = 0 := by rw [← HU.out]; unfold open_; rw [HC.out]; simp []
    subst hu
    clear HU
    obtain ⟨k_0, k_1, k_2, k_3, k_4, k_5, k_6, k_7, k_8, k_9, k_10, k_11⟩ := cells12 (HX0.out W1 HB0_1.out)
    go_wp2_with fail
    go_ret
    exact ⟨rfl, HBW.out.trans (HB0_1.out.mono HBW.out.size)⟩
  · rcases eq_cases ph 3 with ⟨HE1, he1, hf1⟩ | ⟨HE1, he1, hf1⟩
    · have hu : u = 0 := by rw [← HU.out]; unfold open_; rw [HC.out]; simp [HE1.out]
      subst hu
      clear HU
      obtain ⟨k_0, k_1, k_2, k_3, k_4, k_5, k_6, k_7, k_8, k_9, k_10, k_11⟩ := cells12 (HX0.out W1 HB0_1.out)
      go_wp2_with fail
      go_ret
      exact ⟨rfl, HBW.out.trans (HB0_1.out.mono HBW.out.size)⟩
    · have hr := right_iff.1 HC.out
      unfold Rightly at hr
      simp only at hr
      have hm := HF.out
      simp only [Or.fine, frame.inR] at hm
      have h1 : IntKind.i64.wrap (q - f) = q - f := IntWalk.i64_in _ (by omega)
      have h2 : IntKind.i64.wrap (m - f) = m - f := IntWalk.i64_in _ (by omega)
      have h3 : 0 ≤ f := by omega
      have h4 : f ≤ q := by omega
      have h5 : q ≤ 9223372036854775807 := by omega
      have h6 : m ≤ 9223372036854775807 := by omega
      have h7 : 0 ≤ m := by omega
      clear hr hm
      by_cases hl2 : q < m
      · have hu : u = (m - f) := by rw [← HU.out]; unfold open_; rw [HC.out]; simp [HE1.out, hl2]
        subst hu
        clear HU
        have hmx : max q m = m := by omega
        have hmc : ∀ W, Calls Try.prog 36 #[.int .i64 q, .int .i64 m] W fun e w' => e = .returned (.int .i64 m) ∧ W = w' := fun W => by have := num.max_any q m W (by unfold inI; omega) (by unfold inI; omega); rw [hmx] at this; exact this
        obtain ⟨k_0, k_1, k_2, k_3, k_4, k_5, k_6, k_7, k_8, k_9, k_10, k_11⟩ := cells12 (HX0.out W1 HB0_1.out)
        go_upto_region 3 with fail
        go_quiet (first | (go_at_call 36; with_reducible exact quietL (hmc _)) | fail)
        go_wp2_with fail
        go_ret
        exact ⟨rfl, below_drewN (HBW.out.trans (HB0_1.out.mono HBW.out.size)) _⟩
      · have hn2 : m ≤ q := by omega
        have hu : u = (q - f) := by rw [← HU.out]; unfold open_; rw [HC.out]; simp [HE1.out, hl2]
        subst hu
        clear HU
        have hmx : max q m = q := by omega
        have hmc : ∀ W, Calls Try.prog 36 #[.int .i64 q, .int .i64 m] W fun e w' => e = .returned (.int .i64 q) ∧ W = w' := fun W => by have := num.max_any q m W (by unfold inI; omega) (by unfold inI; omega); rw [hmx] at this; exact this
        obtain ⟨k_0, k_1, k_2, k_3, k_4, k_5, k_6, k_7, k_8, k_9, k_10, k_11⟩ := cells12 (HX0.out W1 HB0_1.out)
        go_upto_region 3 with fail
        go_quiet (first | (go_at_call 36; with_reducible exact quietL (hmc _)) | fail)
        go_wp2_with fail
        go_ret
        exact ⟨rfl, below_drewN (HBW.out.trans (HB0_1.out.mono HBW.out.size)) _⟩
theorem open_is (i a y d q p f ph m r v : Int) (g : Bool) {n : Int} (hf : (⟨i, a, y, d, q, p, f, ph, m, r, v, g⟩ : Or).fine) (h : open_ ⟨i, a, y, d, q, p, f, ph, m, r, v, g⟩ = n) (w : World) : Calls Try.prog 21 #[.agg #[.int .i64 i, .int .i64 a, .int .i64 y, .int .i64 d, .int .i64 q, .int .i64 p, .int .i64 f, .int .i64 ph, .int .i64 m, .int .i64 r, .int .i64 v, .bool g]] w fun e w' => e = .returned (.int .i64 n) ∧ Below w.heap.size w w' := by
  have key := open_any i a y d q p f ph m r v g hf w
  rw [h] at key
  exact key

theorem worth_any (i a y d q p f ph m r v : Int) (g : Bool) (hf : (⟨i, a, y, d, q, p, f, ph, m, r, v, g⟩ : Or).fine) (w : World) : Calls Try.prog 19 #[.agg #[.int .i64 i, .int .i64 a, .int .i64 y, .int .i64 d, .int .i64 q, .int .i64 p, .int .i64 f, .int .i64 ph, .int .i64 m, .int .i64 r, .int .i64 v, .bool g]] w fun e w' => e = .returned (.tuple #[.int .i64 (worth ⟨i, a, y, d, q, p, f, ph, m, r, v, g⟩).1, .int .i64 (worth ⟨i, a, y, d, q, p, f, ph, m, r, v, g⟩).2]) ∧ Below w.heap.size w w' := by
  obtain ⟨W0, HW0⟩ : ∃ W, Hid ((w.alloc (.cells #[.int .i64 i, .int .i64 a, .int .i64 y, .int .i64 d, .int .i64 q, .int .i64 p, .int .i64 f, .int .i64 ph, .int .i64 m, .int .i64 r, .int .i64 v, .bool g] 23)) = W) := ⟨_, Lib.hid rfl⟩
  have HBW : Hid (Below w.heap.size w W0) := Lib.hid (by rw [← HW0.out]; exact (Below.refl _ _).alloc (by simp) _)
  have HX0 : Hid (∀ W, Below W0.heap.size W0 W → W.heap[w.heap.size]? = some (.cells #[.int .i64 i, .int .i64 a, .int .i64 y, .int .i64 d, .int .i64 q, .int .i64 p, .int .i64 f, .int .i64 ph, .int .i64 m, .int .i64 r, .int .i64 v, .bool g] 23 (0, 0))) := Lib.hid (fun W hb => (hb.block _ (by rw [← HW0.out]; simp; try omega)).trans (by rw [← HW0.out]; have := heap_alloc_new w (.cells #[.int .i64 i, .int .i64 a, .int .i64 y, .int .i64 d, .int .i64 q, .int .i64 p, .int .i64 f, .int .i64 ph, .int .i64 m, .int .i64 r, .int .i64 v, .bool g] 23); exact this))
  have HF := Lib.hid hf
  obtain ⟨c, HC⟩ : ∃ x, Hid (right ⟨i, a, y, d, q, p, f, ph, m, r, v, g⟩ = x) := ⟨_, Lib.hid rfl⟩
  obtain ⟨u, HU⟩ : ∃ u, Hid (worth ⟨i, a, y, d, q, p, f, ph, m, r, v, g⟩ = u) := ⟨_, Lib.hid rfl⟩
  rw [HU.out]
  clear hf
  go_enter Try.func19, Try.ntmps19
  go_wp2_with fail
  refine Calls.mono (right_is i a y d q p f ph m r v g HF.out HC.out _) ?_
  rintro e1 W1 ⟨rfl, hb⟩
  rw [HW0.out] at hb
  have HB0_1 : Hid (Below W0.heap.size W0 W1) := Lib.hid (hb)
  clear hb
  rcases c with _ | _
  · have hu : u = (0, 1) := by rw [← HU.out]; unfold worth; rw [HC.out]; simp []
    subst hu
    clear HU
    obtain ⟨k_0, k_1, k_2, k_3, k_4, k_5, k_6, k_7, k_8, k_9, k_10, k_11⟩ := cells12 (HX0.out W1 HB0_1.out)
    go_wp2_with fail
    exact bodyPost_ret (v := .tuple #[.int .i64 0, .int .i64 1]) (by simp [results, Try.results19, go_sem]) rfl ⟨rfl, HBW.out.trans (HB0_1.out.mono HBW.out.size)⟩
  · rcases eq_cases ph 3 with ⟨HE1, he1, hf1⟩ | ⟨HE1, he1, hf1⟩
    · have hu : u = (0, 0) := by rw [← HU.out]; unfold worth; rw [HC.out]; simp [HE1.out]
      subst hu
      clear HU
      obtain ⟨k_0, k_1, k_2, k_3, k_4, k_5, k_6, k_7, k_8, k_9, k_10, k_11⟩ := cells12 (HX0.out W1 HB0_1.out)
      go_wp2_with fail
      exact bodyPost_ret (v := .tuple #[.int .i64 0, .int .i64 0]) (by simp [results, Try.results19, go_sem]) rfl ⟨rfl, HBW.out.trans (HB0_1.out.mono HBW.out.size)⟩
    · have hr := right_iff.1 HC.out
      unfold Rightly at hr
      simp only at hr
      have hm := HF.out
      simp only [Or.fine, frame.inR] at hm
      have h1 : IntKind.i64.wrap (q - f) = q - f := IntWalk.i64_in _ (by omega)
      have h2 : IntKind.i64.wrap (m - f) = m - f := IntWalk.i64_in _ (by omega)
      have h3 : 0 ≤ f := by omega
      have h4 : f ≤ q := by omega
      have h5 : q ≤ 9223372036854775807 := by omega
      have h6 : m ≤ 9223372036854775807 := by omega
      have h7 : 0 ≤ m := by omega
      have HI : Hid (inI (q - f) ∧ inI p ∧ inI (m - f) ∧ inI r) := Lib.hid (by unfold inI; omega)
      clear hr hm
      obtain ⟨A, HA⟩ : ∃ x, Hid ((q - f) * p = x) := ⟨_, Lib.hid rfl⟩
      obtain ⟨B, HB⟩ : ∃ x, Hid ((m - f) * r = x) := ⟨_, Lib.hid rfl⟩
      obtain ⟨k_0, k_1, k_2, k_3, k_4, k_5, k_6, k_7, k_8, k_9, k_10, k_11⟩ := cells12 (HX0.out W1 HB0_1.out)
      go_wp2_with fail
      by_cases hiA : inI A
      · have HOA := Lib.hid hiA
        have HFA : Hid (fits A = true) := Lib.hid (by unfold fits; unfold inI at hiA; exact decide_eq_true hiA)
        clear hiA
        refine Calls.mono (num.mul_is _ _ A _ HI.out.1 HI.out.2.1 HOA.out HA.out) ?_
        rintro e7 W' ⟨rfl, rfl⟩
        by_cases hl2 : f < m
        · go_wp2_with fail
          by_cases hiB : inI B
          · have HOB := Lib.hid hiB
            have HFB : Hid (fits B = true) := Lib.hid (by unfold fits; unfold inI at hiB; exact decide_eq_true hiB)
            clear hiB
            refine Calls.mono (num.mul_is _ _ B _ HI.out.2.2.1 HI.out.2.2.2 HOB.out HB.out) ?_
            rintro e8 W' ⟨rfl, rfl⟩
            by_cases hl3 : A < B
            · have hu : u = (B, 0) := by rw [← HU.out]; unfold worth; rw [HC.out]; simp [HA.out, HB.out, HE1.out, HFA.out, hl2, HFB.out, hl3]
              subst hu
              clear HU
              go_wp2_with fail
              refine Calls.mono (num.max_any A B _ HOA.out HOB.out) ?_
              rintro e9 W' ⟨rfl, rfl⟩
              have hmx : max A B = B := by omega
              rw [hmx]
              go_wp2_with fail
              exact bodyPost_ret (v := .tuple #[.int .i64 B, .int .i64 0]) (by simp [results, Try.results19, go_sem]) rfl ⟨rfl, HBW.out.trans (HB0_1.out.mono HBW.out.size)⟩
            · have hn3 : B ≤ A := by omega
              have hu : u = (A, 0) := by rw [← HU.out]; unfold worth; rw [HC.out]; simp [HA.out, HB.out, HE1.out, HFA.out, hl2, HFB.out, hl3]
              subst hu
              clear HU
              go_wp2_with fail
              refine Calls.mono (num.max_any A B _ HOA.out HOB.out) ?_
              rintro e9 W' ⟨rfl, rfl⟩
              have hmx : max A B = A := by omega
              rw [hmx]
              go_wp2_with fail
              exact bodyPost_ret (v := .tuple #[.int .i64 A, .int .i64 0]) (by simp [results, Try.results19, go_sem]) rfl ⟨rfl, HBW.out.trans (HB0_1.out.mono HBW.out.size)⟩
          · have HO := Lib.hid hiB
            have HFB : Hid (fits B = false) := Lib.hid (by unfold fits; unfold inI at hiB; exact decide_eq_false hiB)
            clear hiB
            refine Calls.mono (num.mul_over _ _ _ HI.out.2.2.1 HI.out.2.2.2 (by rw [HB.out]; exact HO.out)) ?_
            rintro e8 W' ⟨rfl, rfl⟩
            have hu : u = (0, 3) := by rw [← HU.out]; unfold worth; rw [HC.out]; simp [HA.out, HB.out, HE1.out, HFA.out, hl2, HFB.out]
            subst hu
            clear HU
            go_wp2_with fail
            exact bodyPost_ret (v := .tuple #[.int .i64 0, .int .i64 3]) (by simp [results, Try.results19, go_sem]) rfl ⟨rfl, HBW.out.trans (HB0_1.out.mono HBW.out.size)⟩
        · have hn2 : m ≤ f := by omega
          have hu : u = (A, 0) := by rw [← HU.out]; unfold worth; rw [HC.out]; simp [HA.out, HB.out, HE1.out, HFA.out, hl2]
          subst hu
          clear HU
          go_wp2_with fail
          exact bodyPost_ret (v := .tuple #[.int .i64 A, .int .i64 0]) (by simp [results, Try.results19, go_sem]) rfl ⟨rfl, HBW.out.trans (HB0_1.out.mono HBW.out.size)⟩
      · have HO := Lib.hid hiA
        have HFA : Hid (fits A = false) := Lib.hid (by unfold fits; unfold inI at hiA; exact decide_eq_false hiA)
        clear hiA
        refine Calls.mono (num.mul_over _ _ _ HI.out.1 HI.out.2.1 (by rw [HA.out]; exact HO.out)) ?_
        rintro e7 W' ⟨rfl, rfl⟩
        have hu : u = (0, 3) := by rw [← HU.out]; unfold worth; rw [HC.out]; simp [HA.out, HB.out, HE1.out, HFA.out]
        subst hu
        clear HU
        go_wp2_with fail
        exact bodyPost_ret (v := .tuple #[.int .i64 0, .int .i64 3]) (by simp [results, Try.results19, go_sem]) rfl ⟨rfl, HBW.out.trans (HB0_1.out.mono HBW.out.size)⟩
theorem worth_is (i a y d q p f ph m r v : Int) (g : Bool) {n e : Int} (hf : (⟨i, a, y, d, q, p, f, ph, m, r, v, g⟩ : Or).fine) (h : worth ⟨i, a, y, d, q, p, f, ph, m, r, v, g⟩ = (n, e)) (w : World) : Calls Try.prog 19 #[.agg #[.int .i64 i, .int .i64 a, .int .i64 y, .int .i64 d, .int .i64 q, .int .i64 p, .int .i64 f, .int .i64 ph, .int .i64 m, .int .i64 r, .int .i64 v, .bool g]] w fun e' w' => e' = .returned (.tuple #[.int .i64 n, .int .i64 e]) ∧ Below w.heap.size w w' := by
  have key := worth_any i a y d q p f ph m r v g hf w
  rw [h] at key
  exact key

end Go.Proofs.Ytfnapckjccjjjaa.order
