/-
  OrdImpl3, RecImplN
-/
import Derived.Test.YtiljgndgffoloabMA28
import Derived.Deep.DeepCutAuto
import Derived.Test.YtiljgndgffoloabMA20
section
namespace Go.Proofs.Ytiljgndgffoloab.order
open Go.RowKit Go.Proofs.Ytiljgndgffoloab
set_option linter.unusedVariables false
set_option linter.unusedSimpArgs false
set_option maxRecDepth 20000
set_option maxHeartbeats 8000000

theorem told_any (i a y d q p f ph m r v : Int) (g : Bool) (zN tN oN qN pN : Int) (hi : tN = 3 → -9223372036854775808 ≤ f + qN ∧ f + qN ≤ 9223372036854775807) (w : World) : Calls Try.prog 87 #[.agg #[.int .i64 i, .int .i64 a, .int .i64 y, .int .i64 d, .int .i64 q, .int .i64 p, .int .i64 f, .int .i64 ph, .int .i64 m, .int .i64 r, .int .i64 v, .bool g], .agg #[.int .i64 zN, .int .i64 tN, .int .i64 oN, .int .i64 qN, .int .i64 pN]] w fun e w' => e = .returned (.agg (oc (told ⟨i, a, y, d, q, p, f, ph, m, r, v, g⟩ ⟨zN, tN, oN, qN, pN⟩))) ∧ Below w.heap.size w w' := by
  obtain ⟨W0, HW0⟩ : ∃ W, Hid ((((w.alloc (.cells #[.int .i64 i, .int .i64 a, .int .i64 y, .int .i64 d, .int .i64 q, .int .i64 p, .int .i64 f, .int .i64 ph, .int .i64 m, .int .i64 r, .int .i64 v, .bool g] 47)).alloc (.cells #[.int .i64 zN, .int .i64 tN, .int .i64 oN, .int .i64 qN, .int .i64 pN] 104)).alloc (.cells #[.int .i64 0, .int .i64 0, .int .i64 0, .int .i64 0, .int .i64 0, .int .i64 0, .int .i64 0, .int .i64 0, .int .i64 0, .int .i64 0, .int .i64 0, .bool false] 47)) = W) := ⟨_, Lib.hid rfl⟩
  have HBW : Hid (Below w.heap.size w W0) := Lib.hid (by rw [← HW0.out]; exact (((Below.refl _ _).alloc (by simp) _).alloc (by simp; try omega) _).alloc (by simp; try omega) _)
  have HX0 : Hid (∀ W, Below W0.heap.size W0 W → W.heap[w.heap.size]? = some (.cells #[.int .i64 i, .int .i64 a, .int .i64 y, .int .i64 d, .int .i64 q, .int .i64 p, .int .i64 f, .int .i64 ph, .int .i64 m, .int .i64 r, .int .i64 v, .bool g] 47 (0, 0))) := Lib.hid (fun W hb => (hb.block _ (by rw [← HW0.out]; simp; try omega)).trans (by rw [← HW0.out]; refine (Below.heap_alloc _ _ _ (by simp; try omega)).trans ?_; refine (Below.heap_alloc _ _ _ (by simp; try omega)).trans ?_; have := heap_alloc_new w (.cells #[.int .i64 i, .int .i64 a, .int .i64 y, .int .i64 d, .int .i64 q, .int .i64 p, .int .i64 f, .int .i64 ph, .int .i64 m, .int .i64 r, .int .i64 v, .bool g] 47); exact this))
  have HX1 : Hid (∀ W, Below W0.heap.size W0 W → W.heap[w.heap.size + 1]? = some (.cells #[.int .i64 zN, .int .i64 tN, .int .i64 oN, .int .i64 qN, .int .i64 pN] 104 (0, 0))) := Lib.hid (fun W hb => (hb.block _ (by rw [← HW0.out]; simp; try omega)).trans (by rw [← HW0.out]; refine (Below.heap_alloc _ _ _ (by simp; try omega)).trans ?_; have := heap_alloc_new (w.alloc (.cells #[.int .i64 i, .int .i64 a, .int .i64 y, .int .i64 d, .int .i64 q, .int .i64 p, .int .i64 f, .int .i64 ph, .int .i64 m, .int .i64 r, .int .i64 v, .bool g] 47)) (.cells #[.int .i64 zN, .int .i64 tN, .int .i64 oN, .int .i64 qN, .int .i64 pN] 104); simp only [World.size_alloc] at this; exact this))
  have HX2 : Hid (∀ W, Below W0.heap.size W0 W → W.heap[w.heap.size + 1 + 1]? = some (.cells #[.int .i64 0, .int .i64 0, .int .i64 0, .int .i64 0, .int .i64 0, .int .i64 0, .int .i64 0, .int .i64 0, .int .i64 0, .int .i64 0, .int .i64 0, .bool false] 47 (0, 0))) := Lib.hid (fun W hb => (hb.block _ (by rw [← HW0.out]; simp; try omega)).trans (by rw [← HW0.out]; have := heap_alloc_new ((w.alloc (.cells #[.int .i64 i, .int .i64 a, .int .i64 y, .int .i64 d, .int .i64 q, .int .i64 p, .int .i64 f, .int .i64 ph, .int .i64 m, .int .i64 r, .int .i64 v, .bool g] 47)).alloc (.cells #[.int .i64 zN, .int .i64 tN, .int .i64 oN, .int .i64 qN, .int .i64 pN] 104)) (.cells #[.int .i64 0, .int .i64 0, .int .i64 0, .int .i64 0, .int .i64 0, .int .i64 0, .int .i64 0, .int .i64 0, .int .i64 0, .int .i64 0, .int .i64 0, .bool false] 47); simp only [World.size_alloc] at this; exact this))
  obtain ⟨u, HU⟩ : ∃ u, Hid (told ⟨i, a, y, d, q, p, f, ph, m, r, v, g⟩ ⟨zN, tN, oN, qN, pN⟩ = u) := ⟨_, Lib.hid rfl⟩
  rw [HU.out]
  rcases eq_cases tN 1 with ⟨HE1, he1, hf1⟩ | ⟨HE1, he1, hf1⟩
  · obtain rfl : tN = 1 := HE1.out
    have hu : u = ⟨i, a, y, d, q, p, f, 2, m, r, v, g⟩ := by
      rw [← HU.out]
      simp [told, done]
    subst hu
    clear HU
    go_enter Try.func87, Try.ntmps87
    go_upto_region 1 with fail
    rw [HW0.out]
    obtain ⟨k_0, k_1, k_2, k_3, k_4, k_5, k_6, k_7, k_8, k_9, k_10, k_11⟩ := cells12 (HX0.out W0 (Below.refl _ _))
    obtain ⟨n_0, n_1, n_2, n_3, n_4⟩ := cells5 (HX1.out W0 (Below.refl _ _))
    clear k_0 k_1 k_2 k_3 k_4 k_5 k_6 k_7 k_8 k_9 k_10 k_11
    obtain ⟨k_0, k_1, k_2, k_3, k_4, k_5, k_6, k_7, k_8, k_9, k_10, k_11⟩ := cells12 (HX0.out W0 (Below.refl _ _))
    have z7 := (block_cell (HX0.out W0 (Below.refl _ _)) 7 (.int .i64 ph) rfl).2
    go_upto_region 16 with fail
    have hS0 : W0.heap[w.heap.size]? = some (.cells #[.int .i64 i, .int .i64 a, .int .i64 y, .int .i64 d, .int .i64 q, .int .i64 p, .int .i64 f, .int .i64 ph, .int .i64 m, .int .i64 r, .int .i64 v, .bool g] 47 (0, 0)) := HX0.out W0 (Below.refl _ _)
    have hS1 : (W0.setCell ⟨w.heap.size, 7, none⟩ (.int .i64 2)).heap[w.heap.size]? = some (.cells #[.int .i64 i, .int .i64 a, .int .i64 y, .int .i64 d, .int .i64 q, .int .i64 p, .int .i64 f, .int .i64 2, .int .i64 m, .int .i64 r, .int .i64 v, .bool g] 47 (0, 0)) := by have := heap_setCell_same W0 (w.heap.size) 7 _ 47 (.int .i64 2) hS0; simpa using this
    obtain ⟨W1, hW1⟩ : ∃ W, W = (W0.setCell ⟨w.heap.size, 7, none⟩ (.int .i64 2)) := ⟨_, rfl⟩
    rw [← hW1]
    rw [← hW1] at hS1
    have HBS : Hid (Below w.heap.size w W1) := Lib.hid (by rw [hW1]; exact (HBW.out.trans ((Below.refl _ _).mono HBW.out.size)).setCell (p := ⟨w.heap.size, 7, none⟩) (by simp) _)
    have hRz : W1.heap[w.heap.size + 1 + 1]? = some (.cells #[.int .i64 0, .int .i64 0, .int .i64 0, .int .i64 0, .int .i64 0, .int .i64 0, .int .i64 0, .int .i64 0, .int .i64 0, .int .i64 0, .int .i64 0, .bool false] 47 (0, 0)) := by rw [hW1]; exact (Below.heap_setCell _ _ _ _ (by simp; try omega)).trans ((HX2.out W0 (Below.refl _ _)))
    have hsz : W1.heap.size = W0.heap.size := by rw [hW1]; simp
    have hS : W1.heap[w.heap.size]? = some (.cells #[.int .i64 i, .int .i64 a, .int .i64 y, .int .i64 d, .int .i64 q, .int .i64 p, .int .i64 f, .int .i64 2, .int .i64 m, .int .i64 r, .int .i64 v, .bool g] 47 (0, 0)) := hS1
    clear hW1 hS0 hS1
    clear z7 k_0 k_1 k_2 k_3 k_4 k_5 k_6 k_7 k_8 k_9 k_10 k_11
    have hwh : World.whole W1 (w.heap.size + 1 + 1) 12 47 := whole_of hRz rfl
    obtain ⟨c0, c1, c2, c3, c4, c5, c6, c7, c8, c9, c10, c11⟩ := cells12 hS
    go_wp2_with (refine wpList_store_whole 47 (.tmp 4) (.tmp 44) (w.heap.size + 1 + 1) 12 _ 47 (by rfl) (by rfl) hwh (by rfl) (by kernel_rfl) (by kernel_rfl) ?_)
    obtain ⟨v0, v1, v2, v3, v4, v5, v6, v7, v8, v9, v10, v11⟩ := cells12 (setAll_self (vs := #[.int .i64 i, .int .i64 a, .int .i64 y, .int .i64 d, .int .i64 q, .int .i64 p, .int .i64 f, .int .i64 2, .int .i64 m, .int .i64 r, .int .i64 v, .bool g]) hwh rfl)
    exact bodyPost_ret (v := .agg #[.int .i64 i, .int .i64 a, .int .i64 y, .int .i64 d, .int .i64 q, .int .i64 p, .int .i64 f, .int .i64 2, .int .i64 m, .int .i64 r, .int .i64 v, .bool g]) (by simp [results, Try.results87, go_sem, v0, v1, v2, v3, v4, v5, v6, v7, v8, v9, v10, v11]) rfl ⟨rfl, setAll_below (HBS.out) (by omega)⟩
  · rcases eq_cases tN 2 with ⟨HE2, he2, hf2⟩ | ⟨HE2, he2, hf2⟩
    · obtain rfl : tN = 2 := HE2.out
      have hu : u = ⟨i, a, y, d, q, p, f, 3, 0, 0, v, g⟩ := by
        rw [← HU.out]
        simp [told, done]
      subst hu
      clear HU
      go_enter Try.func87, Try.ntmps87
      go_upto_region 1 with fail
      rw [HW0.out]
      obtain ⟨k_0, k_1, k_2, k_3, k_4, k_5, k_6, k_7, k_8, k_9, k_10, k_11⟩ := cells12 (HX0.out W0 (Below.refl _ _))
      obtain ⟨n_0, n_1, n_2, n_3, n_4⟩ := cells5 (HX1.out W0 (Below.refl _ _))
      go_wp2_with fail
      refine Calls.mono (done_is _ _ _ _ _ _ _ _ _ _ _ _ _) ?_
      rintro e1 W1 ⟨rfl, hb⟩
      have HB0_1 : Hid (Below W0.heap.size W0 W1) := Lib.hid (hb)
      clear hb
      clear k_0 k_1 k_2 k_3 k_4 k_5 k_6 k_7 k_8 k_9 k_10 k_11 n_0 n_1 n_2 n_3 n_4
      have hwh : World.whole W1 (w.heap.size + 1 + 1) 12 47 := whole_of (HX2.out W1 HB0_1.out) rfl
      go_wp2_with (refine wpList_store_whole 47 (.tmp 4) (.tmp 14) (w.heap.size + 1 + 1) 12 _ 47 (by rfl) (by rfl) hwh (by rfl) (by kernel_rfl) (by kernel_rfl) ?_)
      obtain ⟨v0, v1, v2, v3, v4, v5, v6, v7, v8, v9, v10, v11⟩ := cells12 (setAll_self (vs := #[.int .i64 i, .int .i64 a, .int .i64 y, .int .i64 d, .int .i64 q, .int .i64 p, .int .i64 f, .int .i64 3, .int .i64 0, .int .i64 0, .int .i64 v, .bool g]) hwh rfl)
      exact bodyPost_ret (v := .agg #[.int .i64 i, .int .i64 a, .int .i64 y, .int .i64 d, .int .i64 q, .int .i64 p, .int .i64 f, .int .i64 3, .int .i64 0, .int .i64 0, .int .i64 v, .bool g]) (by simp [results, Try.results87, go_sem, v0, v1, v2, v3, v4, v5, v6, v7, v8, v9, v10, v11]) rfl ⟨rfl, setAll_below (HBW.out.trans (HB0_1.out.mono HBW.out.size)) (by omega)⟩
    · rcases eq_cases tN 4 with ⟨HE3, he3, hf3⟩ | ⟨HE3, he3, hf3⟩
      · obtain rfl : tN = 4 := HE3.out
        have hu : u = ⟨i, a, y, d, q, p, f, 3, 0, 0, v, g⟩ := by
          rw [← HU.out]
          simp [told, done]
        subst hu
        clear HU
        go_enter Try.func87, Try.ntmps87
        go_upto_region 1 with fail
        rw [HW0.out]
        obtain ⟨k_0, k_1, k_2, k_3, k_4, k_5, k_6, k_7, k_8, k_9, k_10, k_11⟩ := cells12 (HX0.out W0 (Below.refl _ _))
        obtain ⟨n_0, n_1, n_2, n_3, n_4⟩ := cells5 (HX1.out W0 (Below.refl _ _))
        go_wp2_with fail
        refine Calls.mono (done_is _ _ _ _ _ _ _ _ _ _ _ _ _) ?_
        rintro e1 W1 ⟨rfl, hb⟩
        have HB0_1 : Hid (Below W0.heap.size W0 W1) := Lib.hid (hb)
        clear hb
        clear k_0 k_1 k_2 k_3 k_4 k_5 k_6 k_7 k_8 k_9 k_10 k_11 n_0 n_1 n_2 n_3 n_4
        have hwh : World.whole W1 (w.heap.size + 1 + 1) 12 47 := whole_of (HX2.out W1 HB0_1.out) rfl
        go_wp2_with (refine wpList_store_whole 47 (.tmp 4) (.tmp 14) (w.heap.size + 1 + 1) 12 _ 47 (by rfl) (by rfl) hwh (by rfl) (by kernel_rfl) (by kernel_rfl) ?_)
        obtain ⟨v0, v1, v2, v3, v4, v5, v6, v7, v8, v9, v10, v11⟩ := cells12 (setAll_self (vs := #[.int .i64 i, .int .i64 a, .int .i64 y, .int .i64 d, .int .i64 q, .int .i64 p, .int .i64 f, .int .i64 3, .int .i64 0, .int .i64 0, .int .i64 v, .bool g]) hwh rfl)
        exact bodyPost_ret (v := .agg #[.int .i64 i, .int .i64 a, .int .i64 y, .int .i64 d, .int .i64 q, .int .i64 p, .int .i64 f, .int .i64 3, .int .i64 0, .int .i64 0, .int .i64 v, .bool g]) (by simp [results, Try.results87, go_sem, v0, v1, v2, v3, v4, v5, v6, v7, v8, v9, v10, v11]) rfl ⟨rfl, setAll_below (HBW.out.trans (HB0_1.out.mono HBW.out.size)) (by omega)⟩
      · rcases eq_cases tN 3 with ⟨HE4, he4, hf4⟩ | ⟨HE4, he4, hf4⟩
        · obtain rfl : tN = 3 := HE4.out
          have hwf : IntKind.i64.wrap (f + qN) = f + qN := IntWalk.i64_in _ (hi rfl)
          rcases eq_cases (f + qN) q with ⟨HE5, he5, hf5⟩ | ⟨HE5, he5, hf5⟩
          · have x0 := HE5.out
            have hu : u = ⟨i, a, y, d, q, p, (f + qN), 3, 0, 0, v, g⟩ := by
              rw [← HU.out]
              simp [told, done, x0]
            subst hu
            clear HU x0
            go_enter Try.func87, Try.ntmps87
            go_upto_region 1 with fail
            rw [HW0.out]
            obtain ⟨k_0, k_1, k_2, k_3, k_4, k_5, k_6, k_7, k_8, k_9, k_10, k_11⟩ := cells12 (HX0.out W0 (Below.refl _ _))
            obtain ⟨n_0, n_1, n_2, n_3, n_4⟩ := cells5 (HX1.out W0 (Below.refl _ _))
            clear k_0 k_1 k_2 k_3 k_4 k_5 k_6 k_7 k_8 k_9 k_10 k_11
            obtain ⟨k_0, k_1, k_2, k_3, k_4, k_5, k_6, k_7, k_8, k_9, k_10, k_11⟩ := cells12 (HX0.out W0 (Below.refl _ _))
            have z6 := (block_cell (HX0.out W0 (Below.refl _ _)) 6 (.int .i64 f) rfl).2
            go_upto_region 9 with fail
            have hS0 : W0.heap[w.heap.size]? = some (.cells #[.int .i64 i, .int .i64 a, .int .i64 y, .int .i64 d, .int .i64 q, .int .i64 p, .int .i64 f, .int .i64 ph, .int .i64 m, .int .i64 r, .int .i64 v, .bool g] 47 (0, 0)) := HX0.out W0 (Below.refl _ _)
            have hS1 : (W0.setCell ⟨w.heap.size, 6, none⟩ (.int .i64 (f + qN))).heap[w.heap.size]? = some (.cells #[.int .i64 i, .int .i64 a, .int .i64 y, .int .i64 d, .int .i64 q, .int .i64 p, .int .i64 (f + qN), .int .i64 ph, .int .i64 m, .int .i64 r, .int .i64 v, .bool g] 47 (0, 0)) := by have := heap_setCell_same W0 (w.heap.size) 6 _ 47 (.int .i64 (f + qN)) hS0; simpa using this
            obtain ⟨W1, hW1⟩ : ∃ W, W = (W0.setCell ⟨w.heap.size, 6, none⟩ (.int .i64 (f + qN))) := ⟨_, rfl⟩
            rw [← hW1]
            rw [← hW1] at hS1
            have HBS : Hid (Below w.heap.size w W1) := Lib.hid (by rw [hW1]; exact (HBW.out.trans ((Below.refl _ _).mono HBW.out.size)).setCell (p := ⟨w.heap.size, 6, none⟩) (by simp) _)
            have hRz : W1.heap[w.heap.size + 1 + 1]? = some (.cells #[.int .i64 0, .int .i64 0, .int .i64 0, .int .i64 0, .int .i64 0, .int .i64 0, .int .i64 0, .int .i64 0, .int .i64 0, .int .i64 0, .int .i64 0, .bool false] 47 (0, 0)) := by rw [hW1]; exact (Below.heap_setCell _ _ _ _ (by simp; try omega)).trans ((HX2.out W0 (Below.refl _ _)))
            have hsz : W1.heap.size = W0.heap.size := by rw [hW1]; simp
            have hS : W1.heap[w.heap.size]? = some (.cells #[.int .i64 i, .int .i64 a, .int .i64 y, .int .i64 d, .int .i64 q, .int .i64 p, .int .i64 (f + qN), .int .i64 ph, .int .i64 m, .int .i64 r, .int .i64 v, .bool g] 47 (0, 0)) := hS1
            clear hW1 hS0 hS1
            clear z6 k_0 k_1 k_2 k_3 k_4 k_5 k_6 k_7 k_8 k_9 k_10 k_11
            clear n_0 n_1 n_2 n_3 n_4
            obtain ⟨c0, c1, c2, c3, c4, c5, c6, c7, c8, c9, c10, c11⟩ := cells12 hS
            go_wp2_with fail
            refine Calls.mono (done_is _ _ _ _ _ _ _ _ _ _ _ _ _) ?_
            rintro e2 W2 ⟨rfl, hb⟩
            clear c0 c1 c2 c3 c4 c5 c6 c7 c8 c9 c10 c11
            have hlt : w.heap.size + 1 + 1 < W1.heap.size := (Array.getElem?_eq_some_iff.1 hRz).1
            have hwh : World.whole W2 (w.heap.size + 1 + 1) 12 47 := whole_of ((hb.block _ hlt).trans hRz) rfl
            have HB2 : Hid (Below w.heap.size w W2) := Lib.hid (HBS.out.trans (hb.mono HBS.out.size))
            clear hb hsz hS hRz
            go_wp2_with (refine wpList_store_whole 47 (.tmp 4) (.tmp 29) (w.heap.size + 1 + 1) 12 _ 47 (by rfl) (by rfl) hwh (by rfl) (by kernel_rfl) (by kernel_rfl) ?_)
            obtain ⟨v0, v1, v2, v3, v4, v5, v6, v7, v8, v9, v10, v11⟩ := cells12 (setAll_self (vs := #[.int .i64 i, .int .i64 a, .int .i64 y, .int .i64 d, .int .i64 q, .int .i64 p, .int .i64 (f + qN), .int .i64 3, .int .i64 0, .int .i64 0, .int .i64 v, .bool g]) hwh rfl)
            exact bodyPost_ret (v := .agg #[.int .i64 i, .int .i64 a, .int .i64 y, .int .i64 d, .int .i64 q, .int .i64 p, .int .i64 (f + qN), .int .i64 3, .int .i64 0, .int .i64 0, .int .i64 v, .bool g]) (by simp [results, Try.results87, go_sem, v0, v1, v2, v3, v4, v5, v6, v7, v8, v9, v10, v11]) rfl ⟨rfl, setAll_below (HB2.out) (by omega)⟩
          · have x0 := HE5.out
            have hu : u = ⟨i, a, y, d, q, p, (f + qN), ph, m, r, v, g⟩ := by
              rw [← HU.out]
              simp [told, done, x0]
            subst hu
            clear HU x0
            go_enter Try.func87, Try.ntmps87
            go_upto_region 1 with fail
            rw [HW0.out]
            obtain ⟨k_0, k_1, k_2, k_3, k_4, k_5, k_6, k_7, k_8, k_9, k_10, k_11⟩ := cells12 (HX0.out W0 (Below.refl _ _))
            obtain ⟨n_0, n_1, n_2, n_3, n_4⟩ := cells5 (HX1.out W0 (Below.refl _ _))
            clear k_0 k_1 k_2 k_3 k_4 k_5 k_6 k_7 k_8 k_9 k_10 k_11
            obtain ⟨k_0, k_1, k_2, k_3, k_4, k_5, k_6, k_7, k_8, k_9, k_10, k_11⟩ := cells12 (HX0.out W0 (Below.refl _ _))
            have z6 := (block_cell (HX0.out W0 (Below.refl _ _)) 6 (.int .i64 f) rfl).2
            go_upto_region 9 with fail
            have hS0 : W0.heap[w.heap.size]? = some (.cells #[.int .i64 i, .int .i64 a, .int .i64 y, .int .i64 d, .int .i64 q, .int .i64 p, .int .i64 f, .int .i64 ph, .int .i64 m, .int .i64 r, .int .i64 v, .bool g] 47 (0, 0)) := HX0.out W0 (Below.refl _ _)
            have hS1 : (W0.setCell ⟨w.heap.size, 6, none⟩ (.int .i64 (f + qN))).heap[w.heap.size]? = some (.cells #[.int .i64 i, .int .i64 a, .int .i64 y, .int .i64 d, .int .i64 q, .int .i64 p, .int .i64 (f + qN), .int .i64 ph, .int .i64 m, .int .i64 r, .int .i64 v, .bool g] 47 (0, 0)) := by have := heap_setCell_same W0 (w.heap.size) 6 _ 47 (.int .i64 (f + qN)) hS0; simpa using this
            obtain ⟨W1, hW1⟩ : ∃ W, W = (W0.setCell ⟨w.heap.size, 6, none⟩ (.int .i64 (f + qN))) := ⟨_, rfl⟩
            rw [← hW1]
            rw [← hW1] at hS1
            have HBS : Hid (Below w.heap.size w W1) := Lib.hid (by rw [hW1]; exact (HBW.out.trans ((Below.refl _ _).mono HBW.out.size)).setCell (p := ⟨w.heap.size, 6, none⟩) (by simp) _)
            have hRz : W1.heap[w.heap.size + 1 + 1]? = some (.cells #[.int .i64 0, .int .i64 0, .int .i64 0, .int .i64 0, .int .i64 0, .int .i64 0, .int .i64 0, .int .i64 0, .int .i64 0, .int .i64 0, .int .i64 0, .bool false] 47 (0, 0)) := by rw [hW1]; exact (Below.heap_setCell _ _ _ _ (by simp; try omega)).trans ((HX2.out W0 (Below.refl _ _)))
            have hsz : W1.heap.size = W0.heap.size := by rw [hW1]; simp
            have hS : W1.heap[w.heap.size]? = some (.cells #[.int .i64 i, .int .i64 a, .int .i64 y, .int .i64 d, .int .i64 q, .int .i64 p, .int .i64 (f + qN), .int .i64 ph, .int .i64 m, .int .i64 r, .int .i64 v, .bool g] 47 (0, 0)) := hS1
            clear hW1 hS0 hS1
            clear z6 k_0 k_1 k_2 k_3 k_4 k_5 k_6 k_7 k_8 k_9 k_10 k_11
            clear n_0 n_1 n_2 n_3 n_4
            obtain ⟨c0, c1, c2, c3, c4, c5, c6, c7, c8, c9, c10, c11⟩ := cells12 hS
            have hwh : World.whole W1 (w.heap.size + 1 + 1) 12 47 := whole_of hRz rfl
            go_upto_region 16 with fail
            go_wp2_with (refine wpList_store_whole 47 (.tmp 4) (.tmp 44) (w.heap.size + 1 + 1) 12 _ 47 (by rfl) (by rfl) hwh (by rfl) (by kernel_rfl) (by kernel_rfl) ?_)
            obtain ⟨v0, v1, v2, v3, v4, v5, v6, v7, v8, v9, v10, v11⟩ := cells12 (setAll_self (vs := #[.int .i64 i, .int .i64 a, .int .i64 y, .int .i64 d, .int .i64 q, .int .i64 p, .int .i64 (f + qN), .int .i64 ph, .int .i64 m, .int .i64 r, .int .i64 v, .bool g]) hwh rfl)
            exact bodyPost_ret (v := .agg #[.int .i64 i, .int .i64 a, .int .i64 y, .int .i64 d, .int .i64 q, .int .i64 p, .int .i64 (f + qN), .int .i64 ph, .int .i64 m, .int .i64 r, .int .i64 v, .bool g]) (by simp [results, Try.results87, go_sem, v0, v1, v2, v3, v4, v5, v6, v7, v8, v9, v10, v11]) rfl ⟨rfl, setAll_below (HBS.out) (by omega)⟩
        · rcases eq_cases tN 5 with ⟨HE6, he6, hf6⟩ | ⟨HE6, he6, hf6⟩
          · obtain rfl : tN = 5 := HE6.out
            have hu : u = ⟨i, a, y, d, qN, pN, f, ph, 0, 0, v, g⟩ := by
              rw [← HU.out]
              simp [told, done]
            subst hu
            clear HU
            go_enter Try.func87, Try.ntmps87
            clear HBW HX0 HX1 HX2 HW0
            go_upto_region 12 with fail
            go_region
            go_wp2_with fail
            refine Calls.mono (settled_is _ _ _ _ _ _ _ _ _ _ _ _ _) ?_
            rintro e2 W2 ⟨rfl, hb⟩
            have hz := heap_alloc_new ((w.alloc (.cells #[.int .i64 i, .int .i64 a, .int .i64 y, .int .i64 d, .int .i64 qN, .int .i64 pN, .int .i64 f, .int .i64 ph, .int .i64 m, .int .i64 r, .int .i64 v, .bool g] 47)).alloc (.cells #[.int .i64 zN, .int .i64 5, .int .i64 oN, .int .i64 qN, .int .i64 pN] 104)) (.cells #[.int .i64 0, .int .i64 0, .int .i64 0, .int .i64 0, .int .i64 0, .int .i64 0, .int .i64 0, .int .i64 0, .int .i64 0, .int .i64 0, .int .i64 0, .bool false] 47)
            simp only [World.size_alloc] at hz
            have hwh : World.whole W2 (w.heap.size + 1 + 1) 12 47 := whole_of ((hb.block _ (by simp)).trans hz) rfl
            have HB2 : Hid (Below w.heap.size w W2) := Lib.hid (((((Below.refl _ _).alloc (Nat.le_refl _) _).alloc (by simp) _).alloc (by simp; omega) _).drew.trans (hb.mono (by simp; omega)))
            clear hb hz
            go_wp2_with (refine wpList_store_whole 47 (.tmp 4) (.tmp 39) (w.heap.size + 1 + 1) 12 _ 47 (by rfl) (by rfl) hwh (by rfl) (by kernel_rfl) (by kernel_rfl) ?_)
            obtain ⟨v0, v1, v2, v3, v4, v5, v6, v7, v8, v9, v10, v11⟩ := cells12 (setAll_self (vs := #[.int .i64 i, .int .i64 a, .int .i64 y, .int .i64 d, .int .i64 qN, .int .i64 pN, .int .i64 f, .int .i64 ph, .int .i64 0, .int .i64 0, .int .i64 v, .bool g]) hwh rfl)
            exact bodyPost_ret (v := .agg #[.int .i64 i, .int .i64 a, .int .i64 y, .int .i64 d, .int .i64 qN, .int .i64 pN, .int .i64 f, .int .i64 ph, .int .i64 0, .int .i64 0, .int .i64 v, .bool g]) (by simp [results, Try.results87, go_sem, v0, v1, v2, v3, v4, v5, v6, v7, v8, v9, v10, v11]) rfl ⟨rfl, setAll_below (HB2.out) (by omega)⟩
          · rcases eq_cases tN 6 with ⟨HE7, he7, hf7⟩ | ⟨HE7, he7, hf7⟩
            · obtain rfl : tN = 6 := HE7.out
              have hu : u = ⟨i, a, y, d, q, p, f, ph, 0, 0, v, g⟩ := by
                rw [← HU.out]
                simp [told, done]
              subst hu
              clear HU
              go_enter Try.func87, Try.ntmps87
              go_upto_region 1 with fail
              rw [HW0.out]
              obtain ⟨k_0, k_1, k_2, k_3, k_4, k_5, k_6, k_7, k_8, k_9, k_10, k_11⟩ := cells12 (HX0.out W0 (Below.refl _ _))
              obtain ⟨n_0, n_1, n_2, n_3, n_4⟩ := cells5 (HX1.out W0 (Below.refl _ _))
              go_wp2_with fail
              refine Calls.mono (settled_is _ _ _ _ _ _ _ _ _ _ _ _ _) ?_
              rintro e1 W1 ⟨rfl, hb⟩
              have HB0_1 : Hid (Below W0.heap.size W0 W1) := Lib.hid (hb)
              clear hb
              clear k_0 k_1 k_2 k_3 k_4 k_5 k_6 k_7 k_8 k_9 k_10 k_11 n_0 n_1 n_2 n_3 n_4
              have hwh : World.whole W1 (w.heap.size + 1 + 1) 12 47 := whole_of (HX2.out W1 HB0_1.out) rfl
              go_wp2_with (refine wpList_store_whole 47 (.tmp 4) (.tmp 43) (w.heap.size + 1 + 1) 12 _ 47 (by rfl) (by rfl) hwh (by rfl) (by kernel_rfl) (by kernel_rfl) ?_)
              obtain ⟨v0, v1, v2, v3, v4, v5, v6, v7, v8, v9, v10, v11⟩ := cells12 (setAll_self (vs := #[.int .i64 i, .int .i64 a, .int .i64 y, .int .i64 d, .int .i64 q, .int .i64 p, .int .i64 f, .int .i64 ph, .int .i64 0, .int .i64 0, .int .i64 v, .bool g]) hwh rfl)
              exact bodyPost_ret (v := .agg #[.int .i64 i, .int .i64 a, .int .i64 y, .int .i64 d, .int .i64 q, .int .i64 p, .int .i64 f, .int .i64 ph, .int .i64 0, .int .i64 0, .int .i64 v, .bool g]) (by simp [results, Try.results87, go_sem, v0, v1, v2, v3, v4, v5, v6, v7, v8, v9, v10, v11]) rfl ⟨rfl, setAll_below (HBW.out.trans (HB0_1.out.mono HBW.out.size)) (by omega)⟩
            · have x0 := HE1.out
              have x1 := HE2.out
              have x2 := HE3.out
              have x3 := HE4.out
              have x4 := HE6.out
              have x5 := HE7.out
              have hu : u = ⟨i, a, y, d, q, p, f, ph, m, r, v, g⟩ := by
                rw [← HU.out]
                simp [told, done, x0, x1, x2, x3, x4, x5]
              subst hu
              clear HU x0 x1 x2 x3 x4 x5
              go_enter Try.func87, Try.ntmps87
              go_upto_region 1 with fail
              rw [HW0.out]
              obtain ⟨k_0, k_1, k_2, k_3, k_4, k_5, k_6, k_7, k_8, k_9, k_10, k_11⟩ := cells12 (HX0.out W0 (Below.refl _ _))
              obtain ⟨n_0, n_1, n_2, n_3, n_4⟩ := cells5 (HX1.out W0 (Below.refl _ _))
              have hwh : World.whole W0 (w.heap.size + 1 + 1) 12 47 := whole_of (HX2.out W0 (Below.refl _ _)) rfl
              go_upto_region 16 with fail
              go_wp2_with (refine wpList_store_whole 47 (.tmp 4) (.tmp 44) (w.heap.size + 1 + 1) 12 _ 47 (by rfl) (by rfl) hwh (by rfl) (by kernel_rfl) (by kernel_rfl) ?_)
              obtain ⟨v0, v1, v2, v3, v4, v5, v6, v7, v8, v9, v10, v11⟩ := cells12 (setAll_self (vs := #[.int .i64 i, .int .i64 a, .int .i64 y, .int .i64 d, .int .i64 q, .int .i64 p, .int .i64 f, .int .i64 ph, .int .i64 m, .int .i64 r, .int .i64 v, .bool g]) hwh rfl)
              exact bodyPost_ret (v := .agg #[.int .i64 i, .int .i64 a, .int .i64 y, .int .i64 d, .int .i64 q, .int .i64 p, .int .i64 f, .int .i64 ph, .int .i64 m, .int .i64 r, .int .i64 v, .bool g]) (by simp [results, Try.results87, go_sem, v0, v1, v2, v3, v4, v5, v6, v7, v8, v9, v10, v11]) rfl ⟨rfl, setAll_below (HBW.out.trans ((Below.refl _ _).mono HBW.out.size)) (by omega)⟩
theorem told_is (i a y d q p f ph m r v : Int) (g : Bool) (zN tN oN qN pN : Int) {i' a' y' d' q' p' f' ph' m' r' v' : Int} {g' : Bool} (hi : tN = 3 → -9223372036854775808 ≤ f + qN ∧ f + qN ≤ 9223372036854775807) (h : told ⟨i, a, y, d, q, p, f, ph, m, r, v, g⟩ ⟨zN, tN, oN, qN, pN⟩ = ⟨i', a', y', d', q', p', f', ph', m', r', v', g'⟩) (w : World) : Calls Try.prog 87 #[.agg #[.int .i64 i, .int .i64 a, .int .i64 y, .int .i64 d, .int .i64 q, .int .i64 p, .int .i64 f, .int .i64 ph, .int .i64 m, .int .i64 r, .int .i64 v, .bool g], .agg #[.int .i64 zN, .int .i64 tN, .int .i64 oN, .int .i64 qN, .int .i64 pN]] w fun e w' => e = .returned (.agg #[.int .i64 i', .int .i64 a', .int .i64 y', .int .i64 d', .int .i64 q', .int .i64 p', .int .i64 f', .int .i64 ph', .int .i64 m', .int .i64 r', .int .i64 v', .bool g']) ∧ Below w.heap.size w w' := by
  have key := told_any i a y d q p f ph m r v g zN tN oN qN pN hi w
  rw [h] at key
  exact key

end Go.Proofs.Ytiljgndgffoloab.order
end
section
namespace Go.Proofs.Ytiljgndgffoloab.rec
open Go.RowKit Go.Proofs.Ytiljgndgffoloab
set_option linter.unusedVariables false
set_option linter.unusedSimpArgs false

theorem ofNote_any (z t o q p : Int) (w : World) : Calls Try.prog 85 #[.agg #[.int .i64 z, .int .i64 t, .int .i64 o, .int .i64 q, .int .i64 p]] w fun e' w' => e' = .returned (.agg #[.int .i64 6, .int .i64 o, .int .i64 0, .int .i64 0, .int .i64 0, .int .i64 q, .int .i64 p, .int .i64 0, .int .i64 0, .int .i64 0, .bool false, .int .i64 z, .int .i64 t]) ∧ Below w.heap.size w w' := by
  go_enter Try.func85, Try.ntmps85
  go_wp2
  exact bodyPost_ret (v := .agg #[.int .i64 6, .int .i64 o, .int .i64 0, .int .i64 0, .int .i64 0, .int .i64 q, .int .i64 p, .int .i64 0, .int .i64 0, .int .i64 0, .bool false, .int .i64 z, .int .i64 t]) (by simp [results, Try.results85, go_sem]) rfl ⟨rfl, ((Below.refl _ _).alloc (Nat.le_refl _) _).alloc (by simp) _⟩

end Go.Proofs.Ytiljgndgffoloab.rec
end
