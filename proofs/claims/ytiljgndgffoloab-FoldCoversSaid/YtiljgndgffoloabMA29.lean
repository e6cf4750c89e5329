/-
  OrdImplC
-/
import Derived.Test.YtiljgndgffoloabMA22
import Derived.Test.YtiljgndgffoloabMA17
import Derived.Test.YtiljgndgffoloabMA02
import Derived.Deep.DeepCutAuto
import Derived.BigQuiet
import Derived.Test.YtiljgndgffoloabMA28
namespace Go.Proofs.Ytiljgndgffoloab.order
open Go.RowKit Go.Proofs.Ytiljgndgffoloab
set_option linter.unusedVariables false
set_option linter.unusedSimpArgs false
set_option maxRecDepth 20000
set_option maxHeartbeats 8000000

theorem change_any (i a y d q p f ph m r v : Int) (g : Bool) (x z : Int) (hf : (⟨i, a, y, d, q, p, f, ph, m, r, v, g⟩ : Or).fine) (w : World) : Calls Try.prog 65 #[.agg #[.int .i64 i, .int .i64 a, .int .i64 y, .int .i64 d, .int .i64 q, .int .i64 p, .int .i64 f, .int .i64 ph, .int .i64 m, .int .i64 r, .int .i64 v, .bool g], .int .i64 x, .int .i64 z] w fun e w' => e = .returned (.tuple #[.agg (oc (change ⟨i, a, y, d, q, p, f, ph, m, r, v, g⟩ x z).1), .int .i64 (change ⟨i, a, y, d, q, p, f, ph, m, r, v, g⟩ x z).2]) ∧ Below w.heap.size w w' := by
  obtain ⟨W0, HW0⟩ : ∃ W, Hid (((w.alloc (.cells #[.int .i64 i, .int .i64 a, .int .i64 y, .int .i64 d, .int .i64 q, .int .i64 p, .int .i64 f, .int .i64 ph, .int .i64 m, .int .i64 r, .int .i64 v, .bool g] 47)).alloc (.cells #[.int .i64 0, .int .i64 0, .int .i64 0, .int .i64 0, .int .i64 0, .int .i64 0, .int .i64 0, .int .i64 0, .int .i64 0, .int .i64 0, .int .i64 0, .bool false] 47)) = W) := ⟨_, Lib.hid rfl⟩
  have HBW : Hid (Below w.heap.size w W0) := Lib.hid (by rw [← HW0.out]; exact ((Below.refl _ _).alloc (by simp) _).alloc (by simp; try omega) _)
  have HX0 : Hid (∀ W, Below W0.heap.size W0 W → W.heap[w.heap.size]? = some (.cells #[.int .i64 i, .int .i64 a, .int .i64 y, .int .i64 d, .int .i64 q, .int .i64 p, .int .i64 f, .int .i64 ph, .int .i64 m, .int .i64 r, .int .i64 v, .bool g] 47 (0, 0))) := Lib.hid (fun W hb => (hb.block _ (by rw [← HW0.out]; simp; try omega)).trans (by rw [← HW0.out]; refine (Below.heap_alloc _ _ _ (by simp; try omega)).trans ?_; have := heap_alloc_new w (.cells #[.int .i64 i, .int .i64 a, .int .i64 y, .int .i64 d, .int .i64 q, .int .i64 p, .int .i64 f, .int .i64 ph, .int .i64 m, .int .i64 r, .int .i64 v, .bool g] 47); exact this))
  have HX1 : Hid (∀ W, Below W0.heap.size W0 W → W.heap[w.heap.size + 1]? = some (.cells #[.int .i64 0, .int .i64 0, .int .i64 0, .int .i64 0, .int .i64 0, .int .i64 0, .int .i64 0, .int .i64 0, .int .i64 0, .int .i64 0, .int .i64 0, .bool false] 47 (0, 0))) := Lib.hid (fun W hb => (hb.block _ (by rw [← HW0.out]; simp; try omega)).trans (by rw [← HW0.out]; have := heap_alloc_new (w.alloc (.cells #[.int .i64 i, .int .i64 a, .int .i64 y, .int .i64 d, .int .i64 q, .int .i64 p, .int .i64 f, .int .i64 ph, .int .i64 m, .int .i64 r, .int .i64 v, .bool g] 47)) (.cells #[.int .i64 0, .int .i64 0, .int .i64 0, .int .i64 0, .int .i64 0, .int .i64 0, .int .i64 0, .int .i64 0, .int .i64 0, .int .i64 0, .int .i64 0, .bool false] 47); simp only [World.size_alloc] at this; exact this))
  have HF := Lib.hid hf
  obtain ⟨u, HU⟩ : ∃ u, Hid (change ⟨i, a, y, d, q, p, f, ph, m, r, v, g⟩ x z = u) := ⟨_, Lib.hid rfl⟩
  rw [HU.out]
  have hvr := hf.2.2.2.2.2.2.2.2.2.2
  unfold frame.inR at hvr
  simp only at hvr
  clear hf
  go_enter Try.func65, Try.ntmps65
  go_upto_region 1 with fail
  rw [HW0.out]
  obtain ⟨k_0, k_1, k_2, k_3, k_4, k_5, k_6, k_7, k_8, k_9, k_10, k_11⟩ := cells12 (HX0.out W0 (Below.refl _ _))
  rcases eq_cases v 9223372036854775807 with ⟨HV0, hv0, hv1⟩ | ⟨HV0, hv0, hv1⟩
  · obtain rfl : v = 9223372036854775807 := HV0.out
    obtain ⟨c, HC⟩ : ∃ x, Hid (right ⟨i, a, y, d, q, p, f, ph, m, r, 9223372036854775807, g⟩ = x) := ⟨_, Lib.hid rfl⟩
    go_wp2_with fail
    refine Calls.mono (num.add_over 9223372036854775807 1 _ (by unfold inI; omega) (by unfold inI; omega) (by unfold inI; omega)) ?_
    rintro e0 w9 ⟨rfl, rfl⟩
    go_wp2_with fail
    refine Calls.mono (right_is i a y d q p f ph m r 9223372036854775807 g HF.out HC.out _) ?_
    rintro e1 W1 ⟨rfl, hb⟩
    have HB0_1 : Hid (Below W0.heap.size W0 W1) := Lib.hid (hb)
    clear hb
    clear k_0 k_1 k_2 k_3 k_4 k_5 k_6 k_7 k_8 k_9 k_10 k_11
    rcases c with _ | _
    · have hu : u = (⟨i, a, y, d, q, p, f, ph, m, r, 9223372036854775807, g⟩, 1) := by rw [← HU.out]; unfold change; rw [HC.out]; simp []
      subst hu
      clear HU
      have hwh : World.whole W1 (w.heap.size + 1) 12 47 := whole_of (HX1.out W1 HB0_1.out) rfl
      obtain ⟨k_0, k_1, k_2, k_3, k_4, k_5, k_6, k_7, k_8, k_9, k_10, k_11⟩ := cells12 (HX0.out W1 HB0_1.out)
      go_wp2_with (refine wpList_store_whole 47 (.tmp 6) (.tmp 31) (w.heap.size + 1) 12 _ 47 (by rfl) (by rfl) hwh (by rfl) (by kernel_rfl) (by kernel_rfl) ?_)
      obtain ⟨v0, v1, v2, v3, v4, v5, v6, v7, v8, v9, v10, v11⟩ := cells12 (setAll_self (vs := #[.int .i64 i, .int .i64 a, .int .i64 y, .int .i64 d, .int .i64 q, .int .i64 p, .int .i64 f, .int .i64 ph, .int .i64 m, .int .i64 r, .int .i64 9223372036854775807, .bool g]) hwh rfl)
      exact bodyPost_ret (v := .tuple #[.agg #[.int .i64 i, .int .i64 a, .int .i64 y, .int .i64 d, .int .i64 q, .int .i64 p, .int .i64 f, .int .i64 ph, .int .i64 m, .int .i64 r, .int .i64 9223372036854775807, .bool g], .int .i64 1]) (by simp [results, Try.results65, go_sem, v0, v1, v2, v3, v4, v5, v6, v7, v8, v9, v10, v11]) rfl ⟨rfl, setAll_below (HBW.out.trans (HB0_1.out.mono HBW.out.size)) (by omega)⟩
    · by_cases hl1 : x < 1
      · have hu : u = (⟨i, a, y, d, q, p, f, ph, m, r, 9223372036854775807, g⟩, 1) := by rw [← HU.out]; unfold change; rw [HC.out]; simp [hl1]
        subst hu
        clear HU
        have hwh : World.whole W1 (w.heap.size + 1) 12 47 := whole_of (HX1.out W1 HB0_1.out) rfl
        obtain ⟨k_0, k_1, k_2, k_3, k_4, k_5, k_6, k_7, k_8, k_9, k_10, k_11⟩ := cells12 (HX0.out W1 HB0_1.out)
        go_wp2_with (refine wpList_store_whole 47 (.tmp 6) (.tmp 31) (w.heap.size + 1) 12 _ 47 (by rfl) (by rfl) hwh (by rfl) (by kernel_rfl) (by kernel_rfl) ?_)
        obtain ⟨v0, v1, v2, v3, v4, v5, v6, v7, v8, v9, v10, v11⟩ := cells12 (setAll_self (vs := #[.int .i64 i, .int .i64 a, .int .i64 y, .int .i64 d, .int .i64 q, .int .i64 p, .int .i64 f, .int .i64 ph, .int .i64 m, .int .i64 r, .int .i64 9223372036854775807, .bool g]) hwh rfl)
        exact bodyPost_ret (v := .tuple #[.agg #[.int .i64 i, .int .i64 a, .int .i64 y, .int .i64 d, .int .i64 q, .int .i64 p, .int .i64 f, .int .i64 ph, .int .i64 m, .int .i64 r, .int .i64 9223372036854775807, .bool g], .int .i64 1]) (by simp [results, Try.results65, go_sem, v0, v1, v2, v3, v4, v5, v6, v7, v8, v9, v10, v11]) rfl ⟨rfl, setAll_below (HBW.out.trans (HB0_1.out.mono HBW.out.size)) (by omega)⟩
      · have hn1 : 1 ≤ x := by omega
        by_cases hl2 : z < 1
        · have hu : u = (⟨i, a, y, d, q, p, f, ph, m, r, 9223372036854775807, g⟩, 1) := by rw [← HU.out]; unfold change; rw [HC.out]; simp [hl1, hl2]
          subst hu
          clear HU
          have hwh : World.whole W1 (w.heap.size + 1) 12 47 := whole_of (HX1.out W1 HB0_1.out) rfl
          obtain ⟨k_0, k_1, k_2, k_3, k_4, k_5, k_6, k_7, k_8, k_9, k_10, k_11⟩ := cells12 (HX0.out W1 HB0_1.out)
          go_wp2_with (refine wpList_store_whole 47 (.tmp 6) (.tmp 31) (w.heap.size + 1) 12 _ 47 (by rfl) (by rfl) hwh (by rfl) (by kernel_rfl) (by kernel_rfl) ?_)
          obtain ⟨v0, v1, v2, v3, v4, v5, v6, v7, v8, v9, v10, v11⟩ := cells12 (setAll_self (vs := #[.int .i64 i, .int .i64 a, .int .i64 y, .int .i64 d, .int .i64 q, .int .i64 p, .int .i64 f, .int .i64 ph, .int .i64 m, .int .i64 r, .int .i64 9223372036854775807, .bool g]) hwh rfl)
          exact bodyPost_ret (v := .tuple #[.agg #[.int .i64 i, .int .i64 a, .int .i64 y, .int .i64 d, .int .i64 q, .int .i64 p, .int .i64 f, .int .i64 ph, .int .i64 m, .int .i64 r, .int .i64 9223372036854775807, .bool g], .int .i64 1]) (by simp [results, Try.results65, go_sem, v0, v1, v2, v3, v4, v5, v6, v7, v8, v9, v10, v11]) rfl ⟨rfl, setAll_below (HBW.out.trans (HB0_1.out.mono HBW.out.size)) (by omega)⟩
        · have hn2 : 1 ≤ z := by omega
          have hu : u = (⟨i, a, y, d, q, p, f, ph, m, r, 9223372036854775807, g⟩, 1) := by rw [← HU.out]; unfold change; rw [HC.out]; simp []
          subst hu
          clear HU
          have hwh : World.whole W1 (w.heap.size + 1) 12 47 := whole_of (HX1.out W1 HB0_1.out) rfl
          obtain ⟨k_0, k_1, k_2, k_3, k_4, k_5, k_6, k_7, k_8, k_9, k_10, k_11⟩ := cells12 (HX0.out W1 HB0_1.out)
          go_wp2_with (refine wpList_store_whole 47 (.tmp 6) (.tmp 31) (w.heap.size + 1) 12 _ 47 (by rfl) (by rfl) hwh (by rfl) (by kernel_rfl) (by kernel_rfl) ?_)
          obtain ⟨v0, v1, v2, v3, v4, v5, v6, v7, v8, v9, v10, v11⟩ := cells12 (setAll_self (vs := #[.int .i64 i, .int .i64 a, .int .i64 y, .int .i64 d, .int .i64 q, .int .i64 p, .int .i64 f, .int .i64 ph, .int .i64 m, .int .i64 r, .int .i64 9223372036854775807, .bool g]) hwh rfl)
          exact bodyPost_ret (v := .tuple #[.agg #[.int .i64 i, .int .i64 a, .int .i64 y, .int .i64 d, .int .i64 q, .int .i64 p, .int .i64 f, .int .i64 ph, .int .i64 m, .int .i64 r, .int .i64 9223372036854775807, .bool g], .int .i64 1]) (by simp [results, Try.results65, go_sem, v0, v1, v2, v3, v4, v5, v6, v7, v8, v9, v10, v11]) rfl ⟨rfl, setAll_below (HBW.out.trans (HB0_1.out.mono HBW.out.size)) (by omega)⟩
  · have hvi : inI v := by unfold inI; omega
    have hvs : inI (v + 1) := by have := HV0.out; unfold inI; omega
    obtain ⟨c, HC⟩ : ∃ x, Hid (right ⟨i, a, y, d, q, p, f, ph, m, r, v, g⟩ = x) := ⟨_, Lib.hid rfl⟩
    go_wp2_with fail
    refine Calls.mono (num.add_is v 1 (v + 1) _ hvi (by unfold inI; omega) hvs rfl) ?_
    rintro e0 w9 ⟨rfl, rfl⟩
    go_wp2_with fail
    refine Calls.mono (right_is i a y d q p f ph m r v g HF.out HC.out _) ?_
    rintro e1 W1 ⟨rfl, hb⟩
    have HB0_1 : Hid (Below W0.heap.size W0 W1) := Lib.hid (hb)
    clear hb
    clear k_0 k_1 k_2 k_3 k_4 k_5 k_6 k_7 k_8 k_9 k_10 k_11
    rcases c with _ | _
    · have hu : u = (⟨i, a, y, d, q, p, f, ph, m, r, v, g⟩, 1) := by rw [← HU.out]; unfold change; rw [HC.out]; simp []
      subst hu
      clear HU
      have hwh : World.whole W1 (w.heap.size + 1) 12 47 := whole_of (HX1.out W1 HB0_1.out) rfl
      obtain ⟨k_0, k_1, k_2, k_3, k_4, k_5, k_6, k_7, k_8, k_9, k_10, k_11⟩ := cells12 (HX0.out W1 HB0_1.out)
      go_wp2_with (refine wpList_store_whole 47 (.tmp 6) (.tmp 31) (w.heap.size + 1) 12 _ 47 (by rfl) (by rfl) hwh (by rfl) (by kernel_rfl) (by kernel_rfl) ?_)
      obtain ⟨v0, v1, v2, v3, v4, v5, v6, v7, v8, v9, v10, v11⟩ := cells12 (setAll_self (vs := #[.int .i64 i, .int .i64 a, .int .i64 y, .int .i64 d, .int .i64 q, .int .i64 p, .int .i64 f, .int .i64 ph, .int .i64 m, .int .i64 r, .int .i64 v, .bool g]) hwh rfl)
      exact bodyPost_ret (v := .tuple #[.agg #[.int .i64 i, .int .i64 a, .int .i64 y, .int .i64 d, .int .i64 q, .int .i64 p, .int .i64 f, .int .i64 ph, .int .i64 m, .int .i64 r, .int .i64 v, .bool g], .int .i64 1]) (by simp [results, Try.results65, go_sem, v0, v1, v2, v3, v4, v5, v6, v7, v8, v9, v10, v11]) rfl ⟨rfl, setAll_below (HBW.out.trans (HB0_1.out.mono HBW.out.size)) (by omega)⟩
    · by_cases hl3 : x < 1
      · have hu : u = (⟨i, a, y, d, q, p, f, ph, m, r, v, g⟩, 1) := by rw [← HU.out]; unfold change; rw [HC.out]; simp [hl3]
        subst hu
        clear HU
        have hwh : World.whole W1 (w.heap.size + 1) 12 47 := whole_of (HX1.out W1 HB0_1.out) rfl
        obtain ⟨k_0, k_1, k_2, k_3, k_4, k_5, k_6, k_7, k_8, k_9, k_10, k_11⟩ := cells12 (HX0.out W1 HB0_1.out)
        go_wp2_with (refine wpList_store_whole 47 (.tmp 6) (.tmp 31) (w.heap.size + 1) 12 _ 47 (by rfl) (by rfl) hwh (by rfl) (by kernel_rfl) (by kernel_rfl) ?_)
        obtain ⟨v0, v1, v2, v3, v4, v5, v6, v7, v8, v9, v10, v11⟩ := cells12 (setAll_self (vs := #[.int .i64 i, .int .i64 a, .int .i64 y, .int .i64 d, .int .i64 q, .int .i64 p, .int .i64 f, .int .i64 ph, .int .i64 m, .int .i64 r, .int .i64 v, .bool g]) hwh rfl)
        exact bodyPost_ret (v := .tuple #[.agg #[.int .i64 i, .int .i64 a, .int .i64 y, .int .i64 d, .int .i64 q, .int .i64 p, .int .i64 f, .int .i64 ph, .int .i64 m, .int .i64 r, .int .i64 v, .bool g], .int .i64 1]) (by simp [results, Try.results65, go_sem, v0, v1, v2, v3, v4, v5, v6, v7, v8, v9, v10, v11]) rfl ⟨rfl, setAll_below (HBW.out.trans (HB0_1.out.mono HBW.out.size)) (by omega)⟩
      · have hn3 : 1 ≤ x := by omega
        by_cases hl4 : z < 1
        · have hu : u = (⟨i, a, y, d, q, p, f, ph, m, r, v, g⟩, 1) := by rw [← HU.out]; unfold change; rw [HC.out]; simp [hl3, hl4]
          subst hu
          clear HU
          have hwh : World.whole W1 (w.heap.size + 1) 12 47 := whole_of (HX1.out W1 HB0_1.out) rfl
          obtain ⟨k_0, k_1, k_2, k_3, k_4, k_5, k_6, k_7, k_8, k_9, k_10, k_11⟩ := cells12 (HX0.out W1 HB0_1.out)
          go_wp2_with (refine wpList_store_whole 47 (.tmp 6) (.tmp 31) (w.heap.size + 1) 12 _ 47 (by rfl) (by rfl) hwh (by rfl) (by kernel_rfl) (by kernel_rfl) ?_)
          obtain ⟨v0, v1, v2, v3, v4, v5, v6, v7, v8, v9, v10, v11⟩ := cells12 (setAll_self (vs := #[.int .i64 i, .int .i64 a, .int .i64 y, .int .i64 d, .int .i64 q, .int .i64 p, .int .i64 f, .int .i64 ph, .int .i64 m, .int .i64 r, .int .i64 v, .bool g]) hwh rfl)
          exact bodyPost_ret (v := .tuple #[.agg #[.int .i64 i, .int .i64 a, .int .i64 y, .int .i64 d, .int .i64 q, .int .i64 p, .int .i64 f, .int .i64 ph, .int .i64 m, .int .i64 r, .int .i64 v, .bool g], .int .i64 1]) (by simp [results, Try.results65, go_sem, v0, v1, v2, v3, v4, v5, v6, v7, v8, v9, v10, v11]) rfl ⟨rfl, setAll_below (HBW.out.trans (HB0_1.out.mono HBW.out.size)) (by omega)⟩
        · have hn4 : 1 ≤ z := by omega
          rcases eq_cases ph 2 with ⟨HE5, he5, hf5⟩ | ⟨HE5, he5, hf5⟩
          · obtain ⟨g0, HG⟩ : ∃ x, Hid (pend m = x) := ⟨_, Lib.hid rfl⟩
            obtain ⟨k_0, k_1, k_2, k_3, k_4, k_5, k_6, k_7, k_8, k_9, k_10, k_11⟩ := cells12 (HX0.out W1 HB0_1.out)
            go_wp2_with fail
            refine Calls.mono (pend_is _ _ _ _ _ _ _ _ _ _ _ _ HG.out _) ?_
            rintro e2 W2 ⟨rfl, hb⟩
            have HB0_2 : Hid (Below W0.heap.size W0 W2) := Lib.hid (HB0_1.out.trans ((hb : Below W1.heap.size W1 W2).mono HB0_1.out.size))
            have HB1_2 : Hid (Below W1.heap.size W1 W2) := Lib.hid (hb)
            clear hb
            clear k_0 k_1 k_2 k_3 k_4 k_5 k_6 k_7 k_8 k_9 k_10 k_11
            have hg := HG.out
            simp only [pend] at hg
            rcases g0 with _ | _
            · simp at hg
              obtain rfl : m = 0 := hg
              cases g
              · have hu : u = (⟨i, a, y, d, q, p, f, ph, x, z, v + 1, false⟩, 0) := by rw [← HU.out]; unfold change; rw [HC.out]; simp [(show ¬ x < 1 by omega), (show ¬ z < 1 by omega), HV0.out, HE5.out]
                subst hu
                clear HU
                obtain ⟨k_0, k_1, k_2, k_3, k_4, k_5, k_6, k_7, k_8, k_9, k_10, k_11⟩ := cells12 (HX0.out W2 HB0_2.out)
                have z8 := (block_cell (HX0.out W2 HB0_2.out) 8 (.int .i64 0) rfl).2
                have z9 := (block_cell (HX0.out W2 HB0_2.out) 9 (.int .i64 r) rfl).2
                have z10 := (block_cell (HX0.out W2 HB0_2.out) 10 (.int .i64 v) rfl).2
                go_upto_region 7 with fail
                have hS0 : W2.heap[w.heap.size]? = some (.cells #[.int .i64 i, .int .i64 a, .int .i64 y, .int .i64 d, .int .i64 q, .int .i64 p, .int .i64 f, .int .i64 ph, .int .i64 0, .int .i64 r, .int .i64 v, .bool false] 47 (0, 0)) := HX0.out W2 HB0_2.out
                have hS1 : (W2.setCell ⟨w.heap.size, 8, none⟩ (.int .i64 x)).heap[w.heap.size]? = some (.cells #[.int .i64 i, .int .i64 a, .int .i64 y, .int .i64 d, .int .i64 q, .int .i64 p, .int .i64 f, .int .i64 ph, .int .i64 x, .int .i64 r, .int .i64 v, .bool false] 47 (0, 0)) := by have := heap_setCell_same W2 (w.heap.size) 8 _ 47 (.int .i64 x) hS0; simpa using this
                have hS2 : ((W2.setCell ⟨w.heap.size, 8, none⟩ (.int .i64 x)).setCell ⟨w.heap.size, 9, none⟩ (.int .i64 z)).heap[w.heap.size]? = some (.cells #[.int .i64 i, .int .i64 a, .int .i64 y, .int .i64 d, .int .i64 q, .int .i64 p, .int .i64 f, .int .i64 ph, .int .i64 x, .int .i64 z, .int .i64 v, .bool false] 47 (0, 0)) := by have := heap_setCell_same (W2.setCell ⟨w.heap.size, 8, none⟩ (.int .i64 x)) (w.heap.size) 9 _ 47 (.int .i64 z) hS1; simpa using this
                have hS3 : (((W2.setCell ⟨w.heap.size, 8, none⟩ (.int .i64 x)).setCell ⟨w.heap.size, 9, none⟩ (.int .i64 z)).setCell ⟨w.heap.size, 10, none⟩ (.int .i64 (v + 1))).heap[w.heap.size]? = some (.cells #[.int .i64 i, .int .i64 a, .int .i64 y, .int .i64 d, .int .i64 q, .int .i64 p, .int .i64 f, .int .i64 ph, .int .i64 x, .int .i64 z, .int .i64 (v + 1), .bool false] 47 (0, 0)) := by have := heap_setCell_same ((W2.setCell ⟨w.heap.size, 8, none⟩ (.int .i64 x)).setCell ⟨w.heap.size, 9, none⟩ (.int .i64 z)) (w.heap.size) 10 _ 47 (.int .i64 (v + 1)) hS2; simpa using this
                obtain ⟨W3, hW3⟩ : ∃ W, W = (((W2.setCell ⟨w.heap.size, 8, none⟩ (.int .i64 x)).setCell ⟨w.heap.size, 9, none⟩ (.int .i64 z)).setCell ⟨w.heap.size, 10, none⟩ (.int .i64 (v + 1))) := ⟨_, rfl⟩
                rw [← hW3]
                rw [← hW3] at hS3
                have HBS : Hid (Below w.heap.size w W3) := Lib.hid (by rw [hW3]; exact (((HBW.out.trans (HB0_2.out.mono HBW.out.size)).setCell (p := ⟨w.heap.size, 8, none⟩) (by simp) _).setCell (p := ⟨w.heap.size, 9, none⟩) (by simp) _).setCell (p := ⟨w.heap.size, 10, none⟩) (by simp) _)
                have hRz : W3.heap[w.heap.size + 1]? = some (.cells #[.int .i64 0, .int .i64 0, .int .i64 0, .int .i64 0, .int .i64 0, .int .i64 0, .int .i64 0, .int .i64 0, .int .i64 0, .int .i64 0, .int .i64 0, .bool false] 47 (0, 0)) := by rw [hW3]; exact (Below.heap_setCell _ _ _ _ (by simp; try omega)).trans ((Below.heap_setCell _ _ _ _ (by simp; try omega)).trans ((Below.heap_setCell _ _ _ _ (by simp; try omega)).trans ((HX1.out W2 HB0_2.out))))
                have hsz : W3.heap.size = W2.heap.size := by rw [hW3]; simp
                have hS : W3.heap[w.heap.size]? = some (.cells #[.int .i64 i, .int .i64 a, .int .i64 y, .int .i64 d, .int .i64 q, .int .i64 p, .int .i64 f, .int .i64 ph, .int .i64 x, .int .i64 z, .int .i64 (v + 1), .bool false] 47 (0, 0)) := hS3
                clear hW3 hS0 hS1 hS2 hS3
                clear z8 z9 z10 k_0 k_1 k_2 k_3 k_4 k_5 k_6 k_7 k_8 k_9 k_10 k_11
                have hwh : World.whole W3 (w.heap.size + 1) 12 47 := whole_of hRz rfl
                obtain ⟨c0, c1, c2, c3, c4, c5, c6, c7, c8, c9, c10, c11⟩ := cells12 hS
                go_wp2_with (refine wpList_store_whole 47 (.tmp 6) (.tmp 50) (w.heap.size + 1) 12 _ 47 (by rfl) (by rfl) hwh (by rfl) (by kernel_rfl) (by kernel_rfl) ?_)
                obtain ⟨v0, v1, v2, v3, v4, v5, v6, v7, v8, v9, v10, v11⟩ := cells12 (setAll_self (vs := #[.int .i64 i, .int .i64 a, .int .i64 y, .int .i64 d, .int .i64 q, .int .i64 p, .int .i64 f, .int .i64 ph, .int .i64 x, .int .i64 z, .int .i64 (v + 1), .bool false]) hwh rfl)
                exact bodyPost_ret (v := .tuple #[.agg #[.int .i64 i, .int .i64 a, .int .i64 y, .int .i64 d, .int .i64 q, .int .i64 p, .int .i64 f, .int .i64 ph, .int .i64 x, .int .i64 z, .int .i64 (v + 1), .bool false], .int .i64 0]) (by simp [results, Try.results65, go_sem, v0, v1, v2, v3, v4, v5, v6, v7, v8, v9, v10, v11]) rfl ⟨rfl, setAll_below (HBS.out) (by omega)⟩
              · have hu : u = (⟨i, a, y, d, q, p, f, ph, 0, r, v, true⟩, 8) := by rw [← HU.out]; unfold change; rw [HC.out]; simp [(show ¬ x < 1 by omega), (show ¬ z < 1 by omega), HV0.out, HE5.out]
                subst hu
                clear HU
                have hwh : World.whole W2 (w.heap.size + 1) 12 47 := whole_of (HX1.out W2 HB0_2.out) rfl
                obtain ⟨k_0, k_1, k_2, k_3, k_4, k_5, k_6, k_7, k_8, k_9, k_10, k_11⟩ := cells12 (HX0.out W2 HB0_2.out)
                go_wp2_with (refine wpList_store_whole 47 (.tmp 6) (.tmp 43) (w.heap.size + 1) 12 _ 47 (by rfl) (by rfl) hwh (by rfl) (by kernel_rfl) (by kernel_rfl) ?_)
                obtain ⟨v0, v1, v2, v3, v4, v5, v6, v7, v8, v9, v10, v11⟩ := cells12 (setAll_self (vs := #[.int .i64 i, .int .i64 a, .int .i64 y, .int .i64 d, .int .i64 q, .int .i64 p, .int .i64 f, .int .i64 ph, .int .i64 0, .int .i64 r, .int .i64 v, .bool true]) hwh rfl)
                exact bodyPost_ret (v := .tuple #[.agg #[.int .i64 i, .int .i64 a, .int .i64 y, .int .i64 d, .int .i64 q, .int .i64 p, .int .i64 f, .int .i64 ph, .int .i64 0, .int .i64 r, .int .i64 v, .bool true], .int .i64 8]) (by simp [results, Try.results65, go_sem, v0, v1, v2, v3, v4, v5, v6, v7, v8, v9, v10, v11]) rfl ⟨rfl, setAll_below (HBW.out.trans (HB0_2.out.mono HBW.out.size)) (by omega)⟩
            · simp at hg
              have hu : u = (⟨i, a, y, d, q, p, f, ph, m, r, v, g⟩, 8) := by rw [← HU.out]; unfold change; rw [HC.out]; simp [(show ¬ x < 1 by omega), (show ¬ z < 1 by omega), HV0.out, HE5.out, hg]
              subst hu
              clear HU
              have hwh : World.whole W2 (w.heap.size + 1) 12 47 := whole_of (HX1.out W2 HB0_2.out) rfl
              obtain ⟨k_0, k_1, k_2, k_3, k_4, k_5, k_6, k_7, k_8, k_9, k_10, k_11⟩ := cells12 (HX0.out W2 HB0_2.out)
              go_wp2_with (refine wpList_store_whole 47 (.tmp 6) (.tmp 43) (w.heap.size + 1) 12 _ 47 (by rfl) (by rfl) hwh (by rfl) (by kernel_rfl) (by kernel_rfl) ?_)
              obtain ⟨v0, v1, v2, v3, v4, v5, v6, v7, v8, v9, v10, v11⟩ := cells12 (setAll_self (vs := #[.int .i64 i, .int .i64 a, .int .i64 y, .int .i64 d, .int .i64 q, .int .i64 p, .int .i64 f, .int .i64 ph, .int .i64 m, .int .i64 r, .int .i64 v, .bool g]) hwh rfl)
              exact bodyPost_ret (v := .tuple #[.agg #[.int .i64 i, .int .i64 a, .int .i64 y, .int .i64 d, .int .i64 q, .int .i64 p, .int .i64 f, .int .i64 ph, .int .i64 m, .int .i64 r, .int .i64 v, .bool g], .int .i64 8]) (by simp [results, Try.results65, go_sem, v0, v1, v2, v3, v4, v5, v6, v7, v8, v9, v10, v11]) rfl ⟨rfl, setAll_below (HBW.out.trans (HB0_2.out.mono HBW.out.size)) (by omega)⟩
          · have hu : u = (⟨i, a, y, d, q, p, f, ph, m, r, v, g⟩, 8) := by rw [← HU.out]; unfold change; rw [HC.out]; simp [(show ¬ x < 1 by omega), (show ¬ z < 1 by omega), HV0.out, HE5.out]
            subst hu
            clear HU
            have hwh : World.whole W1 (w.heap.size + 1) 12 47 := whole_of (HX1.out W1 HB0_1.out) rfl
            obtain ⟨k_0, k_1, k_2, k_3, k_4, k_5, k_6, k_7, k_8, k_9, k_10, k_11⟩ := cells12 (HX0.out W1 HB0_1.out)
            go_wp2_with (refine wpList_store_whole 47 (.tmp 6) (.tmp 43) (w.heap.size + 1) 12 _ 47 (by rfl) (by rfl) hwh (by rfl) (by kernel_rfl) (by kernel_rfl) ?_)
            obtain ⟨v0, v1, v2, v3, v4, v5, v6, v7, v8, v9, v10, v11⟩ := cells12 (setAll_self (vs := #[.int .i64 i, .int .i64 a, .int .i64 y, .int .i64 d, .int .i64 q, .int .i64 p, .int .i64 f, .int .i64 ph, .int .i64 m, .int .i64 r, .int .i64 v, .bool g]) hwh rfl)
            exact bodyPost_ret (v := .tuple #[.agg #[.int .i64 i, .int .i64 a, .int .i64 y, .int .i64 d, .int .i64 q, .int .i64 p, .int .i64 f, .int .i64 ph, .int .i64 m, .int .i64 r, .int .i64 v, .bool g], .int .i64 8]) (by simp [results, Try.results65, go_sem, v0, v1, v2, v3, v4, v5, v6, v7, v8, v9, v10, v11]) rfl ⟨rfl, setAll_below (HBW.out.trans (HB0_1.out.mono HBW.out.size)) (by omega)⟩

theorem change_is (i a y d q p f ph m r v : Int) (g : Bool) (x z : Int) {i' a' y' d' q' p' f' ph' m' r' v' : Int} {g' : Bool} {e : Int} (hf : (⟨i, a, y, d, q, p, f, ph, m, r, v, g⟩ : Or).fine) (hxz : frame.inR x ∧ frame.inR z) (h : change ⟨i, a, y, d, q, p, f, ph, m, r, v, g⟩ x z = (⟨i', a', y', d', q', p', f', ph', m', r', v', g'⟩, e)) (w : World) : Calls Try.prog 65 #[.agg #[.int .i64 i, .int .i64 a, .int .i64 y, .int .i64 d, .int .i64 q, .int .i64 p, .int .i64 f, .int .i64 ph, .int .i64 m, .int .i64 r, .int .i64 v, .bool g], .int .i64 x, .int .i64 z] w fun e' w' => e' = .returned (.tuple #[.agg #[.int .i64 i', .int .i64 a', .int .i64 y', .int .i64 d', .int .i64 q', .int .i64 p', .int .i64 f', .int .i64 ph', .int .i64 m', .int .i64 r', .int .i64 v', .bool g'], .int .i64 e]) ∧ Below w.heap.size w w' := by
  have key := change_any i a y d q p f ph m r v g x z hf w
  rw [h] at key
  exact key

end Go.Proofs.Ytiljgndgffoloab.order
