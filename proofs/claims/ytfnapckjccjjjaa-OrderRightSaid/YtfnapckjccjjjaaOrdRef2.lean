/-
  The contracts of the document's own answers for layer 7: Change, End, Open, Worth.
-/
import Derived.Test.YtfnapckjccjjjaaOrdRef1
import Derived.Test.YtfnapckjccjjjaaRefMul
import Derived.Deep.DeepCutAuto
namespace Go.Proofs.Ytfnapckjccjjjaa.order
open Go.RowKit Go.Proofs.Ytfnapckjccjjjaa
set_option linter.unusedVariables false
set_option linter.unusedSimpArgs false
set_option maxRecDepth 20000
set_option maxHeartbeats 8000000

theorem rchange_any (i a y d q p f ph m r v : Int) (g : Bool) (x z : Int) (hf : (⟨i, a, y, d, q, p, f, ph, m, r, v, g⟩ : Or).fine) (w : World) : Calls Try.prog 16 #[.agg #[.int .i64 i, .int .i64 a, .int .i64 y, .int .i64 d, .int .i64 q, .int .i64 p, .int .i64 f, .int .i64 ph, .int .i64 m, .int .i64 r, .int .i64 v, .bool g], .int .i64 x, .int .i64 z] w fun e w' => e = .returned (.tuple #[.agg (oc (change ⟨i, a, y, d, q, p, f, ph, m, r, v, g⟩ x z).1), .int .i64 (change ⟨i, a, y, d, q, p, f, ph, m, r, v, g⟩ x z).2]) ∧ Below w.heap.size w w' := by
  obtain ⟨W0, HW0⟩ : ∃ W, Hid (((w.alloc (.cells #[.int .i64 i, .int .i64 a, .int .i64 y, .int .i64 d, .int .i64 q, .int .i64 p, .int .i64 f, .int .i64 ph, .int .i64 m, .int .i64 r, .int .i64 v, .bool g] 23)).alloc (.cells #[.int .i64 0, .int .i64 0, .int .i64 0, .int .i64 0, .int .i64 0, .int .i64 0, .int .i64 0, .int .i64 0, .int .i64 0, .int .i64 0, .int .i64 0, .bool false] 23)) = W) := ⟨_, Lib.hid rfl⟩
  have HBW : Hid (Below w.heap.size w W0) := Lib.hid (by rw [← HW0.out]; exact ((Below.refl _ _).alloc (by simp) _).alloc (by simp; try omega) _)
  have HX0 : Hid (∀ W, Below W0.heap.size W0 W → W.heap[w.heap.size]? = some (.cells #[.int .i64 i, .int .i64 a, .int .i64 y, .int .i64 d, .int .i64 q, .int .i64 p, .int .i64 f, .int .i64 ph, .int .i64 m, .int .i64 r, .int .i64 v, .bool g] 23 (0, 0))) := Lib.hid (fun W hb => (hb.block _ (by rw [← HW0.out]; simp; try omega)).trans (by rw [← HW0.out]; refine (Below.heap_alloc _ _ _ (by simp; try omega)).trans ?_; have := heap_alloc_new w (.cells #[.int .i64 i, .int .i64 a, .int .i64 y, .int .i64 d, .int .i64 q, .int .i64 p, .int .i64 f, .int .i64 ph, .int .i64 m, .int .i64 r, .int .i64 v, .bool g] 23); exact this))
  have HX1 : Hid (∀ W, Below W0.heap.size W0 W → W.heap[w.heap.size + 1]? = some (.cells #[.int .i64 0, .int .i64 0, .int .i64 0, .int .i64 0, .int .i64 0, .int .i64 0, .int .i64 0, .int .i64 0, .int .i64 0, .int .i64 0, .int .i64 0, .bool false] 23 (0, 0))) := Lib.hid (fun W hb => (hb.block _ (by rw [← HW0.out]; simp; try omega)).trans (by rw [← HW0.out]; have := heap_alloc_new (w.alloc (.cells #[.int .i64 i, .int .i64 a, .int .i64 y, .int .i64 d, .int .i64 q, .int .i64 p, .int .i64 f, .int .i64 ph, .int .i64 m, .int .i64 r, .int .i64 v, .bool g] 23)) (.cells #[.int .i64 0, .int .i64 0, .int .i64 0, .int .i64 0, .int .i64 0, .int .i64 0, .int .i64 0, .int .i64 0, .int .i64 0, .int .i64 0, .int .i64 0, .bool false] 23); simp only [World.size_alloc] at this; exact this))
  have HF := Lib.hid hf
  obtain ⟨c, HC⟩ : ∃ x, Hid (right ⟨i, a, y, d, q, p, f, ph, m, r, v, g⟩ = x) := ⟨_, Lib.hid rfl⟩
  obtain ⟨u, HU⟩ : ∃ u, Hid (change ⟨i, a, y, d, q, p, f, ph, m, r, v, g⟩ x z = u) := ⟨_, Lib.hid rfl⟩
  rw [HU.out]
  clear hf
  go_enter Try.func16, Try.ntmps16
  go_wp2_with fail
  refine Calls.mono (rright_is i a y d q p f ph m r v g HF.out HC.out _) ?_
  rintro e1 W1 ⟨rfl, hb⟩
  rw [HW0.out] at hb
  have HB0_1 : Hid (Below W0.heap.size W0 W1) := Lib.hid (hb)
  clear hb
  rcases c with _ | _
  · have hu : u = (⟨i, a, y, d, q, p, f, ph, m, r, v, g⟩, 1) := by rw [← HU.out]; unfold change; rw [HC.out]; simp []
    subst hu
    clear HU
    have hwh : World.whole W1 (w.heap.size + 1) 12 23 := whole_of (HX1.out W1 HB0_1.out) rfl
    obtain ⟨k_0, k_1, k_2, k_3, k_4, k_5, k_6, k_7, k_8, k_9, k_10, k_11⟩ := cells12 (HX0.out W1 HB0_1.out)
    go_wp2_with (refine wpList_store_whole 23 (.tmp 6) (.tmp 24) (w.heap.size + 1) 12 _ 23 (by rfl) (by rfl) hwh (by rfl) (by kernel_rfl) (by kernel_rfl) ?_)
    obtain ⟨v0, v1, v2, v3, v4, v5, v6, v7, v8, v9, v10, v11⟩ := cells12 (setAll_self (vs := #[.int .i64 i, .int .i64 a, .int .i64 y, .int .i64 d, .int .i64 q, .int .i64 p, .int .i64 f, .int .i64 ph, .int .i64 m, .int .i64 r, .int .i64 v, .bool g]) hwh rfl)
    exact bodyPost_ret (v := .tuple #[.agg #[.int .i64 i, .int .i64 a, .int .i64 y, .int .i64 d, .int .i64 q, .int .i64 p, .int .i64 f, .int .i64 ph, .int .i64 m, .int .i64 r, .int .i64 v, .bool g], .int .i64 1]) (by simp [results, Try.results16, go_sem, v0, v1, v2, v3, v4, v5, v6, v7, v8, v9, v10, v11]) rfl ⟨rfl, setAll_below (HBW.out.trans (HB0_1.out.mono HBW.out.size)) (by omega)⟩
  · by_cases hl1 : x < 1
    · have hu : u = (⟨i, a, y, d, q, p, f, ph, m, r, v, g⟩, 1) := by rw [← HU.out]; unfold change; rw [HC.out]; simp [hl1]
      subst hu
      clear HU
      have hwh : World.whole W1 (w.heap.size + 1) 12 23 := whole_of (HX1.out W1 HB0_1.out) rfl
      obtain ⟨k_0, k_1, k_2, k_3, k_4, k_5, k_6, k_7, k_8, k_9, k_10, k_11⟩ := cells12 (HX0.out W1 HB0_1.out)
      go_wp2_with (refine wpList_store_whole 23 (.tmp 6) (.tmp 24) (w.heap.size + 1) 12 _ 23 (by rfl) (by rfl) hwh (by rfl) (by kernel_rfl) (by kernel_rfl) ?_)
      obtain ⟨v0, v1, v2, v3, v4, v5, v6, v7, v8, v9, v10, v11⟩ := cells12 (setAll_self (vs := #[.int .i64 i, .int .i64 a, .int .i64 y, .int .i64 d, .int .i64 q, .int .i64 p, .int .i64 f, .int .i64 ph, .int .i64 m, .int .i64 r, .int .i64 v, .bool g]) hwh rfl)
      exact bodyPost_ret (v := .tuple #[.agg #[.int .i64 i, .int .i64 a, .int .i64 y, .int .i64 d, .int .i64 q, .int .i64 p, .int .i64 f, .int .i64 ph, .int .i64 m, .int .i64 r, .int .i64 v, .bool g], .int .i64 1]) (by simp [results, Try.results16, go_sem, v0, v1, v2, v3, v4, v5, v6, v7, v8, v9, v10, v11]) rfl ⟨rfl, setAll_below (HBW.out.trans (HB0_1.out.mono HBW.out.size)) (by omega)⟩
    · have hn1 : 1 ≤ x := by omega
      by_cases hl2 : z < 1
      · have hu : u = (⟨i, a, y, d, q, p, f, ph, m, r, v, g⟩, 1) := by rw [← HU.out]; unfold change; rw [HC.out]; simp [hl1, hl2]
        subst hu
        clear HU
        have hwh : World.whole W1 (w.heap.size + 1) 12 23 := whole_of (HX1.out W1 HB0_1.out) rfl
        obtain ⟨k_0, k_1, k_2, k_3, k_4, k_5, k_6, k_7, k_8, k_9, k_10, k_11⟩ := cells12 (HX0.out W1 HB0_1.out)
        go_wp2_with (refine wpList_store_whole 23 (.tmp 6) (.tmp 24) (w.heap.size + 1) 12 _ 23 (by rfl) (by rfl) hwh (by rfl) (by kernel_rfl) (by kernel_rfl) ?_)
        obtain ⟨v0, v1, v2, v3, v4, v5, v6, v7, v8, v9, v10, v11⟩ := cells12 (setAll_self (vs := #[.int .i64 i, .int .i64 a, .int .i64 y, .int .i64 d, .int .i64 q, .int .i64 p, .int .i64 f, .int .i64 ph, .int .i64 m, .int .i64 r, .int .i64 v, .bool g]) hwh rfl)
        exact bodyPost_ret (v := .tuple #[.agg #[.int .i64 i, .int .i64 a, .int .i64 y, .int .i64 d, .int .i64 q, .int .i64 p, .int .i64 f, .int .i64 ph, .int .i64 m, .int .i64 r, .int .i64 v, .bool g], .int .i64 1]) (by simp [results, Try.results16, go_sem, v0, v1, v2, v3, v4, v5, v6, v7, v8, v9, v10, v11]) rfl ⟨rfl, setAll_below (HBW.out.trans (HB0_1.out.mono HBW.out.size)) (by omega)⟩
      · have hn2 : 1 ≤ z := by omega
        rcases eq_cases v 9223372036854775807 with ⟨HE3, he3, hf3⟩ | ⟨HE3, he3, hf3⟩
        · have hu : u = (⟨i, a, y, d, q, p, f, ph, m, r, v, g⟩, 1) := by rw [← HU.out]; unfold change; rw [HC.out]; simp [HE3.out]
          subst hu
          clear HU
          have hwh : World.whole W1 (w.heap.size + 1) 12 23 := whole_of (HX1.out W1 HB0_1.out) rfl
          obtain ⟨k_0, k_1, k_2, k_3, k_4, k_5, k_6, k_7, k_8, k_9, k_10, k_11⟩ := cells12 (HX0.out W1 HB0_1.out)
          go_wp2_with (refine wpList_store_whole 23 (.tmp 6) (.tmp 24) (w.heap.size + 1) 12 _ 23 (by rfl) (by rfl) hwh (by rfl) (by kernel_rfl) (by kernel_rfl) ?_)
          obtain ⟨v0, v1, v2, v3, v4, v5, v6, v7, v8, v9, v10, v11⟩ := cells12 (setAll_self (vs := #[.int .i64 i, .int .i64 a, .int .i64 y, .int .i64 d, .int .i64 q, .int .i64 p, .int .i64 f, .int .i64 ph, .int .i64 m, .int .i64 r, .int .i64 v, .bool g]) hwh rfl)
          exact bodyPost_ret (v := .tuple #[.agg #[.int .i64 i, .int .i64 a, .int .i64 y, .int .i64 d, .int .i64 q, .int .i64 p, .int .i64 f, .int .i64 ph, .int .i64 m, .int .i64 r, .int .i64 v, .bool g], .int .i64 1]) (by simp [results, Try.results16, go_sem, v0, v1, v2, v3, v4, v5, v6, v7, v8, v9, v10, v11]) rfl ⟨rfl, setAll_below (HBW.out.trans (HB0_1.out.mono HBW.out.size)) (by omega)⟩
        · rcases eq_cases ph 2 with ⟨HE4, he4, hf4⟩ | ⟨HE4, he4, hf4⟩
          · rcases eq_cases m 0 with ⟨HE5, he5, hf5⟩ | ⟨HE5, he5, hf5⟩
            · cases g
              · have hw0 : 0 ≤ v ∧ v < 9223372036854775807 := by
                  have hr := right_iff.1 HC.out
                  unfold Rightly at hr
                  simp only at hr
                  have hm := HF.out
                  simp only [Or.fine, frame.inR] at hm
                  have := HE3.out
                  omega
                have hwv : IntKind.i64.wrap (v + 1) = v + 1 := IntWalk.i64_in _ (by omega)
                obtain ⟨hv0, hv1⟩ := hw0
                have hu : u = (⟨i, a, y, d, q, p, f, ph, x, z, v + 1, false⟩, 0) := by rw [← HU.out]; unfold change; rw [HC.out]; simp [hl1, hl2, HE3.out, HE4.out, HE5.out]
                subst hu
                clear HU
                obtain ⟨k_0, k_1, k_2, k_3, k_4, k_5, k_6, k_7, k_8, k_9, k_10, k_11⟩ := cells12 (HX0.out W1 HB0_1.out)
                have z8 := (block_cell (HX0.out W1 HB0_1.out) 8 (.int .i64 m) rfl).2
                have z9 := (block_cell (HX0.out W1 HB0_1.out) 9 (.int .i64 r) rfl).2
                have z10 := (block_cell (HX0.out W1 HB0_1.out) 10 (.int .i64 v) rfl).2
                go_upto_region 8 with fail
                have hS0 : W1.heap[w.heap.size]? = some (.cells #[.int .i64 i, .int .i64 a, .int .i64 y, .int .i64 d, .int .i64 q, .int .i64 p, .int .i64 f, .int .i64 ph, .int .i64 m, .int .i64 r, .int .i64 v, .bool false] 23 (0, 0)) := HX0.out W1 HB0_1.out
                have hS1 : (W1.setCell ⟨w.heap.size, 8, none⟩ (.int .i64 x)).heap[w.heap.size]? = some (.cells #[.int .i64 i, .int .i64 a, .int .i64 y, .int .i64 d, .int .i64 q, .int .i64 p, .int .i64 f, .int .i64 ph, .int .i64 x, .int .i64 r, .int .i64 v, .bool false] 23 (0, 0)) := by have := heap_setCell_same W1 (w.heap.size) 8 _ 23 (.int .i64 x) hS0; simpa using this
                have hS2 : ((W1.setCell ⟨w.heap.size, 8, none⟩ (.int .i64 x)).setCell ⟨w.heap.size, 9, none⟩ (.int .i64 z)).heap[w.heap.size]? = some (.cells #[.int .i64 i, .int .i64 a, .int .i64 y, .int .i64 d, .int .i64 q, .int .i64 p, .int .i64 f, .int .i64 ph, .int .i64 x, .int .i64 z, .int .i64 v, .bool false] 23 (0, 0)) := by have := heap_setCell_same (W1.setCell ⟨w.heap.size, 8, none⟩ (.int .i64 x)) (w.heap.size) 9 _ 23 (.int .i64 z) hS1; simpa using this
                have hS3 : (((W1.setCell ⟨w.heap.size, 8, none⟩ (.int .i64 x)).setCell ⟨w.heap.size, 9, none⟩ (.int .i64 z)).setCell ⟨w.heap.size, 10, none⟩ (.int .i64 (v + 1))).heap[w.heap.size]? = some (.cells #[.int .i64 i, .int .i64 a, .int .i64 y, .int .i64 d, .int .i64 q, .int .i64 p, .int .i64 f, .int .i64 ph, .int .i64 x, .int .i64 z, .int .i64 (v + 1), .bool false] 23 (0, 0)) := by have := heap_setCell_same ((W1.setCell ⟨w.heap.size, 8, none⟩ (.int .i64 x)).setCell ⟨w.heap.size, 9, none⟩ (.int .i64 z)) (w.heap.size) 10 _ 23 (.int .i64 (v + 1)) hS2; simpa using this
                obtain ⟨W2, hW2⟩ : ∃ W, W = (((W1.setCell ⟨w.heap.size, 8, none⟩ (.int .i64 x)).setCell ⟨w.heap.size, 9, none⟩ (.int .i64 z)).setCell ⟨w.heap.size, 10, none⟩ (.int .i64 (v + 1))) := ⟨_, rfl⟩
                rw [← hW2]
                rw [← hW2] at hS3
                have HBS : Hid (Below w.heap.size w W2) := Lib.hid (by rw [hW2]; exact (((HBW.out.trans (HB0_1.out.mono HBW.out.size)).setCell (p := ⟨w.heap.size, 8, none⟩) (Nat.le_refl _) _).setCell (p := ⟨w.heap.size, 9, none⟩) (Nat.le_refl _) _).setCell (p := ⟨w.heap.size, 10, none⟩) (Nat.le_refl _) _)
                have hR : W2.heap[w.heap.size + 1]? = some (.cells #[.int .i64 0, .int .i64 0, .int .i64 0, .int .i64 0, .int .i64 0, .int .i64 0, .int .i64 0, .int .i64 0, .int .i64 0, .int .i64 0, .int .i64 0, .bool false] 23 (0, 0)) := by rw [hW2]; exact (Below.heap_setCell _ _ _ _ (by simp)).trans ((Below.heap_setCell _ _ _ _ (by simp)).trans ((Below.heap_setCell _ _ _ _ (by simp)).trans ((HX1.out W1 HB0_1.out))))
                have hwh : World.whole W2 (w.heap.size + 1) 12 23 := whole_of hR rfl
                obtain ⟨c0, c1, c2, c3, c4, c5, c6, c7, c8, c9, c10, c11⟩ := cells12 hS3
                clear hR hS0 hS1 hS2 hS3 hW2
                go_wp2_with (refine wpList_store_whole 23 (.tmp 6) (.tmp 46) (w.heap.size + 1) 12 _ 23 (by rfl) (by rfl) hwh (by rfl) (by kernel_rfl) (by kernel_rfl) ?_)
                obtain ⟨v0, v1, v2, v3, v4, v5, v6, v7, v8, v9, v10, v11⟩ := cells12 (setAll_self (vs := #[.int .i64 i, .int .i64 a, .int .i64 y, .int .i64 d, .int .i64 q, .int .i64 p, .int .i64 f, .int .i64 ph, .int .i64 x, .int .i64 z, .int .i64 (v + 1), .bool false]) hwh rfl)
                exact bodyPost_ret (v := .tuple #[.agg #[.int .i64 i, .int .i64 a, .int .i64 y, .int .i64 d, .int .i64 q, .int .i64 p, .int .i64 f, .int .i64 ph, .int .i64 x, .int .i64 z, .int .i64 (v + 1), .bool false], .int .i64 0]) (by simp [results, Try.results16, go_sem, v0, v1, v2, v3, v4, v5, v6, v7, v8, v9, v10, v11]) rfl ⟨rfl, setAll_below (HBS.out) (by omega)⟩
              · have hu : u = (⟨i, a, y, d, q, p, f, ph, m, r, v, true⟩, 8) := by rw [← HU.out]; unfold change; rw [HC.out]; simp [hl1, hl2, HE3.out, HE4.out, HE5.out]
                subst hu
                clear HU
                have hwh : World.whole W1 (w.heap.size + 1) 12 23 := whole_of (HX1.out W1 HB0_1.out) rfl
                obtain ⟨k_0, k_1, k_2, k_3, k_4, k_5, k_6, k_7, k_8, k_9, k_10, k_11⟩ := cells12 (HX0.out W1 HB0_1.out)
                go_wp2_with (refine wpList_store_whole 23 (.tmp 6) (.tmp 37) (w.heap.size + 1) 12 _ 23 (by rfl) (by rfl) hwh (by rfl) (by kernel_rfl) (by kernel_rfl) ?_)
                obtain ⟨v0, v1, v2, v3, v4, v5, v6, v7, v8, v9, v10, v11⟩ := cells12 (setAll_self (vs := #[.int .i64 i, .int .i64 a, .int .i64 y, .int .i64 d, .int .i64 q, .int .i64 p, .int .i64 f, .int .i64 ph, .int .i64 m, .int .i64 r, .int .i64 v, .bool true]) hwh rfl)
                exact bodyPost_ret (v := .tuple #[.agg #[.int .i64 i, .int .i64 a, .int .i64 y, .int .i64 d, .int .i64 q, .int .i64 p, .int .i64 f, .int .i64 ph, .int .i64 m, .int .i64 r, .int .i64 v, .bool true], .int .i64 8]) (by simp [results, Try.results16, go_sem, v0, v1, v2, v3, v4, v5, v6, v7, v8, v9, v10, v11]) rfl ⟨rfl, setAll_below (HBW.out.trans (HB0_1.out.mono HBW.out.size)) (by omega)⟩
            · have hu : u = (⟨i, a, y, d, q, p, f, ph, m, r, v, g⟩, 8) := by rw [← HU.out]; unfold change; rw [HC.out]; simp [hl1, hl2, HE3.out, HE4.out, HE5.out]
              subst hu
              clear HU
              have hwh : World.whole W1 (w.heap.size + 1) 12 23 := whole_of (HX1.out W1 HB0_1.out) rfl
              obtain ⟨k_0, k_1, k_2, k_3, k_4, k_5, k_6, k_7, k_8, k_9, k_10, k_11⟩ := cells12 (HX0.out W1 HB0_1.out)
              go_wp2_with (refine wpList_store_whole 23 (.tmp 6) (.tmp 37) (w.heap.size + 1) 12 _ 23 (by rfl) (by rfl) hwh (by rfl) (by kernel_rfl) (by kernel_rfl) ?_)
              obtain ⟨v0, v1, v2, v3, v4, v5, v6, v7, v8, v9, v10, v11⟩ := cells12 (setAll_self (vs := #[.int .i64 i, .int .i64 a, .int .i64 y, .int .i64 d, .int .i64 q, .int .i64 p, .int .i64 f, .int .i64 ph, .int .i64 m, .int .i64 r, .int .i64 v, .bool g]) hwh rfl)
              exact bodyPost_ret (v := .tuple #[.agg #[.int .i64 i, .int .i64 a, .int .i64 y, .int .i64 d, .int .i64 q, .int .i64 p, .int .i64 f, .int .i64 ph, .int .i64 m, .int .i64 r, .int .i64 v, .bool g], .int .i64 8]) (by simp [results, Try.results16, go_sem, v0, v1, v2, v3, v4, v5, v6, v7, v8, v9, v10, v11]) rfl ⟨rfl, setAll_below (HBW.out.trans (HB0_1.out.mono HBW.out.size)) (by omega)⟩
          · have hu : u = (⟨i, a, y, d, q, p, f, ph, m, r, v, g⟩, 8) := by rw [← HU.out]; unfold change; rw [HC.out]; simp [hl1, hl2, HE3.out, HE4.out]
            subst hu
            clear HU
            have hwh : World.whole W1 (w.heap.size + 1) 12 23 := whole_of (HX1.out W1 HB0_1.out) rfl
            obtain ⟨k_0, k_1, k_2, k_3, k_4, k_5, k_6, k_7, k_8, k_9, k_10, k_11⟩ := cells12 (HX0.out W1 HB0_1.out)
            go_wp2_with (refine wpList_store_whole 23 (.tmp 6) (.tmp 37) (w.heap.size + 1) 12 _ 23 (by rfl) (by rfl) hwh (by rfl) (by kernel_rfl) (by kernel_rfl) ?_)
            obtain ⟨v0, v1, v2, v3, v4, v5, v6, v7, v8, v9, v10, v11⟩ := cells12 (setAll_self (vs := #[.int .i64 i, .int .i64 a, .int .i64 y, .int .i64 d, .int .i64 q, .int .i64 p, .int .i64 f, .int .i64 ph, .int .i64 m, .int .i64 r, .int .i64 v, .bool g]) hwh rfl)
            exact bodyPost_ret (v := .tuple #[.agg #[.int .i64 i, .int .i64 a, .int .i64 y, .int .i64 d, .int .i64 q, .int .i64 p, .int .i64 f, .int .i64 ph, .int .i64 m, .int .i64 r, .int .i64 v, .bool g], .int .i64 8]) (by simp [results, Try.results16, go_sem, v0, v1, v2, v3, v4, v5, v6, v7, v8, v9, v10, v11]) rfl ⟨rfl, setAll_below (HBW.out.trans (HB0_1.out.mono HBW.out.size)) (by omega)⟩

theorem rchange_is (i a y d q p f ph m r v : Int) (g : Bool) (x z : Int) {i' a' y' d' q' p' f' ph' m' r' v' : Int} {g' : Bool} {e : Int} (hf : (⟨i, a, y, d, q, p, f, ph, m, r, v, g⟩ : Or).fine) (h : change ⟨i, a, y, d, q, p, f, ph, m, r, v, g⟩ x z = (⟨i', a', y', d', q', p', f', ph', m', r', v', g'⟩, e)) (w : World) : Calls Try.prog 16 #[.agg #[.int .i64 i, .int .i64 a, .int .i64 y, .int .i64 d, .int .i64 q, .int .i64 p, .int .i64 f, .int .i64 ph, .int .i64 m, .int .i64 r, .int .i64 v, .bool g], .int .i64 x, .int .i64 z] w fun e' w' => e' = .returned (.tuple #[.agg #[.int .i64 i', .int .i64 a', .int .i64 y', .int .i64 d', .int .i64 q', .int .i64 p', .int .i64 f', .int .i64 ph', .int .i64 m', .int .i64 r', .int .i64 v', .bool g'], .int .i64 e]) ∧ Below w.heap.size w w' := by
  have key := rchange_any i a y d q p f ph m r v g x z hf w
  rw [h] at key
  exact key

theorem rstop_any (i a y d q p f ph m r v : Int) (g : Bool) (hf : (⟨i, a, y, d, q, p, f, ph, m, r, v, g⟩ : Or).fine) (w : World) : Calls Try.prog 18 #[.agg #[.int .i64 i, .int .i64 a, .int .i64 y, .int .i64 d, .int .i64 q, .int .i64 p, .int .i64 f, .int .i64 ph, .int .i64 m, .int .i64 r, .int .i64 v, .bool g]] w fun e w' => e = .returned (.tuple #[.agg (oc (stop ⟨i, a, y, d, q, p, f, ph, m, r, v, g⟩).1), .int .i64 (stop ⟨i, a, y, d, q, p, f, ph, m, r, v, g⟩).2]) ∧ Below w.heap.size w w' := by
  obtain ⟨W0, HW0⟩ : ∃ W, Hid (((w.alloc (.cells #[.int .i64 i, .int .i64 a, .int .i64 y, .int .i64 d, .int .i64 q, .int .i64 p, .int .i64 f, .int .i64 ph, .int .i64 m, .int .i64 r, .int .i64 v, .bool g] 23)).alloc (.cells #[.int .i64 0, .int .i64 0, .int .i64 0, .int .i64 0, .int .i64 0, .int .i64 0, .int .i64 0, .int .i64 0, .int .i64 0, .int .i64 0, .int .i64 0, .bool false] 23)) = W) := ⟨_, Lib.hid rfl⟩
  have HBW : Hid (Below w.heap.size w W0) := Lib.hid (by rw [← HW0.out]; exact ((Below.refl _ _).alloc (by simp) _).alloc (by simp; try omega) _)
  have HX0 : Hid (∀ W, Below W0.heap.size W0 W → W.heap[w.heap.size]? = some (.cells #[.int .i64 i, .int .i64 a, .int .i64 y, .int .i64 d, .int .i64 q, .int .i64 p, .int .i64 f, .int .i64 ph, .int .i64 m, .int .i64 r, .int .i64 v, .bool g] 23 (0, 0))) := Lib.hid (fun W hb => (hb.block _ (by rw [← HW0.out]; simp; try omega)).trans (by rw [← HW0.out]; refine (Below.heap_alloc _ _ _ (by simp; try omega)).trans ?_; have := heap_alloc_new w (.cells #[.int .i64 i, .int .i64 a, .int .i64 y, .int .i64 d, .int .i64 q, .int .i64 p, .int .i64 f, .int .i64 ph, .int .i64 m, .int .i64 r, .int .i64 v, .bool g] 23); exact this))
  have HX1 : Hid (∀ W, Below W0.heap.size W0 W → W.heap[w.heap.size + 1]? = some (.cells #[.int .i64 0, .int .i64 0, .int .i64 0, .int .i64 0, .int .i64 0, .int .i64 0, .int .i64 0, .int .i64 0, .int .i64 0, .int .i64 0, .int .i64 0, .bool false] 23 (0, 0))) := Lib.hid (fun W hb => (hb.block _ (by rw [← HW0.out]; simp; try omega)).trans (by rw [← HW0.out]; have := heap_alloc_new (w.alloc (.cells #[.int .i64 i, .int .i64 a, .int .i64 y, .int .i64 d, .int .i64 q, .int .i64 p, .int .i64 f, .int .i64 ph, .int .i64 m, .int .i64 r, .int .i64 v, .bool g] 23)) (.cells #[.int .i64 0, .int .i64 0, .int .i64 0, .int .i64 0, .int .i64 0, .int .i64 0, .int .i64 0, .int .i64 0, .int .i64 0, .int .i64 0, .int .i64 0, .bool false] 23); simp only [World.size_alloc] at this; exact this))
  have HF := Lib.hid hf
  obtain ⟨c, HC⟩ : ∃ x, Hid (right ⟨i, a, y, d, q, p, f, ph, m, r, v, g⟩ = x) := ⟨_, Lib.hid rfl⟩
  obtain ⟨u, HU⟩ : ∃ u, Hid (stop ⟨i, a, y, d, q, p, f, ph, m, r, v, g⟩ = u) := ⟨_, Lib.hid rfl⟩
  rw [HU.out]
  clear hf
  go_enter Try.func18, Try.ntmps18
  go_wp2_with fail
  refine Calls.mono (rright_is i a y d q p f ph m r v g HF.out HC.out _) ?_
  rintro e1 W1 ⟨rfl, hb⟩
  rw [HW0.out] at hb
  have HB0_1 : Hid (Below W0.heap.size W0 W1) := Lib.hid (hb)
  clear hb
  rcases c with _ | _
  · have hu : u = (⟨i, a, y, d, q, p, f, ph, m, r, v, g⟩, 1) := by rw [← HU.out]; unfold stop; rw [HC.out]; simp []
    subst hu
    clear HU
    have hwh : World.whole W1 (w.heap.size + 1) 12 23 := whole_of (HX1.out W1 HB0_1.out) rfl
    obtain ⟨k_0, k_1, k_2, k_3, k_4, k_5, k_6, k_7, k_8, k_9, k_10, k_11⟩ := cells12 (HX0.out W1 HB0_1.out)
    go_wp2_with (refine wpList_store_whole 23 (.tmp 2) (.tmp 7) (w.heap.size + 1) 12 _ 23 (by rfl) (by rfl) hwh (by rfl) (by kernel_rfl) (by kernel_rfl) ?_)
    obtain ⟨v0, v1, v2, v3, v4, v5, v6, v7, v8, v9, v10, v11⟩ := cells12 (setAll_self (vs := #[.int .i64 i, .int .i64 a, .int .i64 y, .int .i64 d, .int .i64 q, .int .i64 p, .int .i64 f, .int .i64 ph, .int .i64 m, .int .i64 r, .int .i64 v, .bool g]) hwh rfl)
    exact bodyPost_ret (v := .tuple #[.agg #[.int .i64 i, .int .i64 a, .int .i64 y, .int .i64 d, .int .i64 q, .int .i64 p, .int .i64 f, .int .i64 ph, .int .i64 m, .int .i64 r, .int .i64 v, .bool g], .int .i64 1]) (by simp [results, Try.results18, go_sem, v0, v1, v2, v3, v4, v5, v6, v7, v8, v9, v10, v11]) rfl ⟨rfl, setAll_below (HBW.out.trans (HB0_1.out.mono HBW.out.size)) (by omega)⟩
  · cases g
    · rcases eq_cases ph 3 with ⟨HE1, he1, hf1⟩ | ⟨HE1, he1, hf1⟩
      · have hu : u = (⟨i, a, y, d, q, p, f, ph, m, r, v, false⟩, 8) := by rw [← HU.out]; unfold stop; rw [HC.out]; simp [HE1.out]
        subst hu
        clear HU
        have hwh : World.whole W1 (w.heap.size + 1) 12 23 := whole_of (HX1.out W1 HB0_1.out) rfl
        obtain ⟨k_0, k_1, k_2, k_3, k_4, k_5, k_6, k_7, k_8, k_9, k_10, k_11⟩ := cells12 (HX0.out W1 HB0_1.out)
        go_wp2_with (refine wpList_store_whole 23 (.tmp 2) (.tmp 15) (w.heap.size + 1) 12 _ 23 (by rfl) (by rfl) hwh (by rfl) (by kernel_rfl) (by kernel_rfl) ?_)
        obtain ⟨v0, v1, v2, v3, v4, v5, v6, v7, v8, v9, v10, v11⟩ := cells12 (setAll_self (vs := #[.int .i64 i, .int .i64 a, .int .i64 y, .int .i64 d, .int .i64 q, .int .i64 p, .int .i64 f, .int .i64 ph, .int .i64 m, .int .i64 r, .int .i64 v, .bool false]) hwh rfl)
        exact bodyPost_ret (v := .tuple #[.agg #[.int .i64 i, .int .i64 a, .int .i64 y, .int .i64 d, .int .i64 q, .int .i64 p, .int .i64 f, .int .i64 ph, .int .i64 m, .int .i64 r, .int .i64 v, .bool false], .int .i64 8]) (by simp [results, Try.results18, go_sem, v0, v1, v2, v3, v4, v5, v6, v7, v8, v9, v10, v11]) rfl ⟨rfl, setAll_below (HBW.out.trans (HB0_1.out.mono HBW.out.size)) (by omega)⟩
      · have hu : u = (⟨i, a, y, d, q, p, f, ph, m, r, v, true⟩, 0) := by rw [← HU.out]; unfold stop; rw [HC.out]; simp [HE1.out]
        subst hu
        clear HU
        obtain ⟨k_0, k_1, k_2, k_3, k_4, k_5, k_6, k_7, k_8, k_9, k_10, k_11⟩ := cells12 (HX0.out W1 HB0_1.out)
        have z11 := (block_cell (HX0.out W1 HB0_1.out) 11 (.bool false) rfl).2
        go_upto_region 6 with fail
        have hS0 : W1.heap[w.heap.size]? = some (.cells #[.int .i64 i, .int .i64 a, .int .i64 y, .int .i64 d, .int .i64 q, .int .i64 p, .int .i64 f, .int .i64 ph, .int .i64 m, .int .i64 r, .int .i64 v, .bool false] 23 (0, 0)) := HX0.out W1 HB0_1.out
        have hS1 : (W1.setCell ⟨w.heap.size, 11, none⟩ (.bool true)).heap[w.heap.size]? = some (.cells #[.int .i64 i, .int .i64 a, .int .i64 y, .int .i64 d, .int .i64 q, .int .i64 p, .int .i64 f, .int .i64 ph, .int .i64 m, .int .i64 r, .int .i64 v, .bool true] 23 (0, 0)) := by have := heap_setCell_same W1 (w.heap.size) 11 _ 23 (.bool true) hS0; simpa using this
        obtain ⟨W2, hW2⟩ : ∃ W, W = (W1.setCell ⟨w.heap.size, 11, none⟩ (.bool true)) := ⟨_, rfl⟩
        rw [← hW2]
        rw [← hW2] at hS1
        have HBS : Hid (Below w.heap.size w W2) := Lib.hid (by rw [hW2]; exact (HBW.out.trans (HB0_1.out.mono HBW.out.size)).setCell (p := ⟨w.heap.size, 11, none⟩) (Nat.le_refl _) _)
        have hR : W2.heap[w.heap.size + 1]? = some (.cells #[.int .i64 0, .int .i64 0, .int .i64 0, .int .i64 0, .int .i64 0, .int .i64 0, .int .i64 0, .int .i64 0, .int .i64 0, .int .i64 0, .int .i64 0, .bool false] 23 (0, 0)) := by rw [hW2]; exact (Below.heap_setCell _ _ _ _ (by simp)).trans ((HX1.out W1 HB0_1.out))
        have hwh : World.whole W2 (w.heap.size + 1) 12 23 := whole_of hR rfl
        obtain ⟨c0, c1, c2, c3, c4, c5, c6, c7, c8, c9, c10, c11⟩ := cells12 hS1
        clear hR hS0 hS1 hW2
        go_wp2_with (refine wpList_store_whole 23 (.tmp 2) (.tmp 17) (w.heap.size + 1) 12 _ 23 (by rfl) (by rfl) hwh (by rfl) (by kernel_rfl) (by kernel_rfl) ?_)
        obtain ⟨v0, v1, v2, v3, v4, v5, v6, v7, v8, v9, v10, v11⟩ := cells12 (setAll_self (vs := #[.int .i64 i, .int .i64 a, .int .i64 y, .int .i64 d, .int .i64 q, .int .i64 p, .int .i64 f, .int .i64 ph, .int .i64 m, .int .i64 r, .int .i64 v, .bool true]) hwh rfl)
        exact bodyPost_ret (v := .tuple #[.agg #[.int .i64 i, .int .i64 a, .int .i64 y, .int .i64 d, .int .i64 q, .int .i64 p, .int .i64 f, .int .i64 ph, .int .i64 m, .int .i64 r, .int .i64 v, .bool true], .int .i64 0]) (by simp [results, Try.results18, go_sem, v0, v1, v2, v3, v4, v5, v6, v7, v8, v9, v10, v11]) rfl ⟨rfl, setAll_below (HBS.out) (by omega)⟩
    · have hu : u = (⟨i, a, y, d, q, p, f, ph, m, r, v, true⟩, 8) := by rw [← HU.out]; unfold stop; rw [HC.out]; simp []
      subst hu
      clear HU
      have hwh : World.whole W1 (w.heap.size + 1) 12 23 := whole_of (HX1.out W1 HB0_1.out) rfl
      obtain ⟨k_0, k_1, k_2, k_3, k_4, k_5, k_6, k_7, k_8, k_9, k_10, k_11⟩ := cells12 (HX0.out W1 HB0_1.out)
      go_wp2_with (refine wpList_store_whole 23 (.tmp 2) (.tmp 15) (w.heap.size + 1) 12 _ 23 (by rfl) (by rfl) hwh (by rfl) (by kernel_rfl) (by kernel_rfl) ?_)
      obtain ⟨v0, v1, v2, v3, v4, v5, v6, v7, v8, v9, v10, v11⟩ := cells12 (setAll_self (vs := #[.int .i64 i, .int .i64 a, .int .i64 y, .int .i64 d, .int .i64 q, .int .i64 p, .int .i64 f, .int .i64 ph, .int .i64 m, .int .i64 r, .int .i64 v, .bool true]) hwh rfl)
      exact bodyPost_ret (v := .tuple #[.agg #[.int .i64 i, .int .i64 a, .int .i64 y, .int .i64 d, .int .i64 q, .int .i64 p, .int .i64 f, .int .i64 ph, .int .i64 m, .int .i64 r, .int .i64 v, .bool true], .int .i64 8]) (by simp [results, Try.results18, go_sem, v0, v1, v2, v3, v4, v5, v6, v7, v8, v9, v10, v11]) rfl ⟨rfl, setAll_below (HBW.out.trans (HB0_1.out.mono HBW.out.size)) (by omega)⟩

theorem rstop_is (i a y d q p f ph m r v : Int) (g : Bool) {i' a' y' d' q' p' f' ph' m' r' v' : Int} {g' : Bool} {e : Int} (hf : (⟨i, a, y, d, q, p, f, ph, m, r, v, g⟩ : Or).fine) (h : stop ⟨i, a, y, d, q, p, f, ph, m, r, v, g⟩ = (⟨i', a', y', d', q', p', f', ph', m', r', v', g'⟩, e)) (w : World) : Calls Try.prog 18 #[.agg #[.int .i64 i, .int .i64 a, .int .i64 y, .int .i64 d, .int .i64 q, .int .i64 p, .int .i64 f, .int .i64 ph, .int .i64 m, .int .i64 r, .int .i64 v, .bool g]] w fun e' w' => e' = .returned (.tuple #[.agg #[.int .i64 i', .int .i64 a', .int .i64 y', .int .i64 d', .int .i64 q', .int .i64 p', .int .i64 f', .int .i64 ph', .int .i64 m', .int .i64 r', .int .i64 v', .bool g'], .int .i64 e]) ∧ Below w.heap.size w w' := by
  have key := rstop_any i a y d q p f ph m r v g hf w
  rw [h] at key
  exact key

theorem ropen_any (i a y d q p f ph m r v : Int) (g : Bool) (hf : (⟨i, a, y, d, q, p, f, ph, m, r, v, g⟩ : Or).fine) (w : World) : Calls Try.prog 22 #[.agg #[.int .i64 i, .int .i64 a, .int .i64 y, .int .i64 d, .int .i64 q, .int .i64 p, .int .i64 f, .int .i64 ph, .int .i64 m, .int .i64 r, .int .i64 v, .bool g]] w fun e w' => e = .returned (.int .i64 (open_ ⟨i, a, y, d, q, p, f, ph, m, r, v, g⟩)) ∧ Below w.heap.size w w' := by
  obtain ⟨W0, HW0⟩ : ∃ W, Hid ((w.alloc (.cells #[.int .i64 i, .int .i64 a, .int .i64 y, .int .i64 d, .int .i64 q, .int .i64 p, .int .i64 f, .int .i64 ph, .int .i64 m, .int .i64 r, .int .i64 v, .bool g] 23)) = W) := ⟨_, Lib.hid rfl⟩
  have HBW : Hid (Below w.heap.size w W0) := Lib.hid (by rw [← HW0.out]; exact (Below.refl _ _).alloc (by simp) _)
  have HX0 : Hid (∀ W, Below W0.heap.size W0 W → W.heap[w.heap.size]? = some (.cells #[.int .i64 i, .int .i64 a, .int .i64 y, .int .i64 d, .int .i64 q, .int .i64 p, .int .i64 f, .int .i64 ph, .int .i64 m, .int .i64 r, .int .i64 v, .bool g] 23 (0, 0))) := Lib.hid (fun W hb => (hb.block _ (by rw [← HW0.out]; simp; try omega)).trans (by rw [← HW0.out]; have := heap_alloc_new w (.cells #[.int .i64 i, .int .i64 a, .int .i64 y, .int .i64 d, .int .i64 q, .int .i64 p, .int .i64 f, .int .i64 ph, .int .i64 m, .int .i64 r, .int .i64 v, .bool g] 23); exact this))
  have HF := Lib.hid hf
  obtain ⟨c, HC⟩ : ∃ x, Hid (right ⟨i, a, y, d, q, p, f, ph, m, r, v, g⟩ = x) := ⟨_, Lib.hid rfl⟩
  obtain ⟨u, HU⟩ : ∃ u, Hid (open_ ⟨i, a, y, d, q, p, f, ph, m, r, v, g⟩ = u) := ⟨_, Lib.hid rfl⟩
  rw [HU.out]
  clear hf
  go_enter Try.func22, Try.ntmps22
  go_wp2_with fail
  refine Calls.mono (rright_is i a y d q p f ph m r v g HF.out HC.out _) ?_
  rintro e1 W1 ⟨rfl, hb⟩
  rw [HW0.out] at hb
  have HB0_1 : Hid (Below W0.heap.size W0 W1) := Lib.hid (hb)
  clear hb
  rcases c with _ | _
  · have hu : u = 0 := by rw [← HU.out]; unfold open_; rw [HC.out]; simp []
    subst hu
    clear HU
    obtain ⟨k_0, k_1, k_2, k_3, k_4, k_5, k_6, k_7, k_8, k_9, k_10, k_11⟩ := cells12 (HX0.out W1 HB0_1.out)
    go_wp2_with fail
    go_ret
    exact ⟨rfl, HBW.out.trans (HB0_1.out.mono HBW.out.size)⟩
  · rcases eq_cases ph 3 with ⟨HE1, he1, hf1⟩ | ⟨HE1, he1, hf1⟩
    · have hu : u = 0 := by rw [← HU.out]; unfold open_; rw [HC.out]; simp [HE1.out]
      subst hu
      clear HU
      obtain ⟨k_0, k_1, k_2, k_3, k_4, k_5, k_6, k_7, k_8, k_9, k_10, k_11⟩ := cells12 (HX0.out W1 HB0_1.out)
      go_wp2_with fail
      go_ret
      exact ⟨rfl, HBW.out.trans (HB0_1.out.mono HBW.out.size)⟩
    · have hr := right_iff.1 HC.out
      unfold Rightly at hr
      simp only at hr
      have hm := HF.out
      simp only [Or.fine, frame.inR] at hm
      have h1 : IntKind.i64.wrap (q - f) = q - f := IntWalk.i64_in _ (by omega)
      have h2 : IntKind.i64.wrap (m - f) = m - f := IntWalk.i64_in _ (by omega)
      have h3 : 0 ≤ f := by omega
      have h4 : f ≤ q := by omega
      have h5 : q ≤ 9223372036854775807 := by omega
      have h6 : m ≤ 9223372036854775807 := by omega
      have h7 : 0 ≤ m := by omega
      clear hr hm
      by_cases hl2 : q < m
      · have hu : u = (m - f) := by rw [← HU.out]; unfold open_; rw [HC.out]; simp [HE1.out, hl2]
        subst hu
        clear HU
        obtain ⟨k_0, k_1, k_2, k_3, k_4, k_5, k_6, k_7, k_8, k_9, k_10, k_11⟩ := cells12 (HX0.out W1 HB0_1.out)
        go_wp2_with fail
        go_ret
        exact ⟨rfl, HBW.out.trans (HB0_1.out.mono HBW.out.size)⟩
      · have hn2 : m ≤ q := by omega
        have hu : u = (q - f) := by rw [← HU.out]; unfold open_; rw [HC.out]; simp [HE1.out, hl2]
        subst hu
        clear HU
        obtain ⟨k_0, k_1, k_2, k_3, k_4, k_5, k_6, k_7, k_8, k_9, k_10, k_11⟩ := cells12 (HX0.out W1 HB0_1.out)
        go_wp2_with fail
        go_ret
        exact ⟨rfl, HBW.out.trans (HB0_1.out.mono HBW.out.size)⟩
theorem ropen_is (i a y d q p f ph m r v : Int) (g : Bool) {n : Int} (hf : (⟨i, a, y, d, q, p, f, ph, m, r, v, g⟩ : Or).fine) (h : open_ ⟨i, a, y, d, q, p, f, ph, m, r, v, g⟩ = n) (w : World) : Calls Try.prog 22 #[.agg #[.int .i64 i, .int .i64 a, .int .i64 y, .int .i64 d, .int .i64 q, .int .i64 p, .int .i64 f, .int .i64 ph, .int .i64 m, .int .i64 r, .int .i64 v, .bool g]] w fun e w' => e = .returned (.int .i64 n) ∧ Below w.heap.size w w' := by
  have key := ropen_any i a y d q p f ph m r v g hf w
  rw [h] at key
  exact key

theorem rworth_any (i a y d q p f ph m r v : Int) (g : Bool) (hf : (⟨i, a, y, d, q, p, f, ph, m, r, v, g⟩ : Or).fine) (w : World) : Calls Try.prog 20 #[.agg #[.int .i64 i, .int .i64 a, .int .i64 y, .int .i64 d, .int .i64 q, .int .i64 p, .int .i64 f, .int .i64 ph, .int .i64 m, .int .i64 r, .int .i64 v, .bool g]] w fun e w' => e = .returned (.tuple #[.int .i64 (worth ⟨i, a, y, d, q, p, f, ph, m, r, v, g⟩).1, .int .i64 (worth ⟨i, a, y, d, q, p, f, ph, m, r, v, g⟩).2]) ∧ Below w.heap.size w w' := by
  obtain ⟨W0, HW0⟩ : ∃ W, Hid ((w.alloc (.cells #[.int .i64 i, .int .i64 a, .int .i64 y, .int .i64 d, .int .i64 q, .int .i64 p, .int .i64 f, .int .i64 ph, .int .i64 m, .int .i64 r, .int .i64 v, .bool g] 23)) = W) := ⟨_, Lib.hid rfl⟩
  have HBW : Hid (Below w.heap.size w W0) := Lib.hid (by rw [← HW0.out]; exact (Below.refl _ _).alloc (by simp) _)
  have HX0 : Hid (∀ W, Below W0.heap.size W0 W → W.heap[w.heap.size]? = some (.cells #[.int .i64 i, .int .i64 a, .int .i64 y, .int .i64 d, .int .i64 q, .int .i64 p, .int .i64 f, .int .i64 ph, .int .i64 m, .int .i64 r, .int .i64 v, .bool g] 23 (0, 0))) := Lib.hid (fun W hb => (hb.block _ (by rw [← HW0.out]; simp; try omega)).trans (by rw [← HW0.out]; have := heap_alloc_new w (.cells #[.int .i64 i, .int .i64 a, .int .i64 y, .int .i64 d, .int .i64 q, .int .i64 p, .int .i64 f, .int .i64 ph, .int .i64 m, .int .i64 r, .int .i64 v, .bool g] 23); exact this))
  have HF := Lib.hid hf
  obtain ⟨c, HC⟩ : ∃ x, Hid (right ⟨i, a, y, d, q, p, f, ph, m, r, v, g⟩ = x) := ⟨_, Lib.hid rfl⟩
  obtain ⟨u, HU⟩ : ∃ u, Hid (worth ⟨i, a, y, d, q, p, f, ph, m, r, v, g⟩ = u) := ⟨_, Lib.hid rfl⟩
  rw [HU.out]
  clear hf
  go_enter Try.func20, Try.ntmps20
  go_wp2_with fail
  refine Calls.mono (rright_is i a y d q p f ph m r v g HF.out HC.out _) ?_
  rintro e1 W1 ⟨rfl, hb⟩
  rw [HW0.out] at hb
  have HB0_1 : Hid (Below W0.heap.size W0 W1) := Lib.hid (hb)
  clear hb
  rcases c with _ | _
  · have hu : u = (0, 1) := by rw [← HU.out]; unfold worth; rw [HC.out]; simp []
    subst hu
    clear HU
    obtain ⟨k_0, k_1, k_2, k_3, k_4, k_5, k_6, k_7, k_8, k_9, k_10, k_11⟩ := cells12 (HX0.out W1 HB0_1.out)
    go_wp2_with fail
    exact bodyPost_ret (v := .tuple #[.int .i64 0, .int .i64 1]) (by simp [results, Try.results20, go_sem]) rfl ⟨rfl, HBW.out.trans (HB0_1.out.mono HBW.out.size)⟩
  · rcases eq_cases ph 3 with ⟨HE1, he1, hf1⟩ | ⟨HE1, he1, hf1⟩
    · have hu : u = (0, 0) := by rw [← HU.out]; unfold worth; rw [HC.out]; simp [HE1.out]
      subst hu
      clear HU
      obtain ⟨k_0, k_1, k_2, k_3, k_4, k_5, k_6, k_7, k_8, k_9, k_10, k_11⟩ := cells12 (HX0.out W1 HB0_1.out)
      go_wp2_with fail
      exact bodyPost_ret (v := .tuple #[.int .i64 0, .int .i64 0]) (by simp [results, Try.results20, go_sem]) rfl ⟨rfl, HBW.out.trans (HB0_1.out.mono HBW.out.size)⟩
    · have hr := right_iff.1 HC.out
      unfold Rightly at hr
      simp only at hr
      have hm := HF.out
      simp only [Or.fine, frame.inR] at hm
      have h1 : IntKind.i64.wrap (q - f) = q - f := IntWalk.i64_in _ (by omega)
      have h2 : IntKind.i64.wrap (m - f) = m - f := IntWalk.i64_in _ (by omega)
      have h3 : 0 ≤ f := by omega
      have h4 : f ≤ q := by omega
      have h5 : q ≤ 9223372036854775807 := by omega
      have h6 : m ≤ 9223372036854775807 := by omega
      have h7 : 0 ≤ m := by omega
      have HI : Hid (inI (q - f) ∧ inI p ∧ inI (m - f) ∧ inI r) := Lib.hid (by unfold inI; omega)
      clear hr hm
      obtain ⟨A, HA⟩ : ∃ x, Hid ((q - f) * p = x) := ⟨_, Lib.hid rfl⟩
      obtain ⟨B, HB⟩ : ∃ x, Hid ((m - f) * r = x) := ⟨_, Lib.hid rfl⟩
      obtain ⟨k_0, k_1, k_2, k_3, k_4, k_5, k_6, k_7, k_8, k_9, k_10, k_11⟩ := cells12 (HX0.out W1 HB0_1.out)
      go_wp2_with fail
      by_cases hiA : inI A
      · have HOA := Lib.hid hiA
        have HFA : Hid (fits A = true) := Lib.hid (by unfold fits; unfold inI at hiA; exact decide_eq_true hiA)
        clear hiA
        refine Calls.mono (num.rmul_ok _ _ A _ HI.out.1 HI.out.2.1 HOA.out HA.out) ?_
        rintro e7 W' ⟨rfl, rfl⟩
        by_cases hl2 : f < m
        · go_wp2_with fail
          by_cases hiB : inI B
          · have HOB := Lib.hid hiB
            have HFB : Hid (fits B = true) := Lib.hid (by unfold fits; unfold inI at hiB; exact decide_eq_true hiB)
            clear hiB
            refine Calls.mono (num.rmul_ok _ _ B _ HI.out.2.2.1 HI.out.2.2.2 HOB.out HB.out) ?_
            rintro e8 W' ⟨rfl, rfl⟩
            by_cases hl3 : A < B
            · have hu : u = (B, 0) := by rw [← HU.out]; unfold worth; rw [HC.out]; simp [HA.out, HB.out, HE1.out, HFA.out, hl2, HFB.out, hl3]
              subst hu
              clear HU
              go_wp2_with fail
              exact bodyPost_ret (v := .tuple #[.int .i64 B, .int .i64 0]) (by simp [results, Try.results20, go_sem]) rfl ⟨rfl, HBW.out.trans (HB0_1.out.mono HBW.out.size)⟩
            · have hn3 : B ≤ A := by omega
              have hu : u = (A, 0) := by rw [← HU.out]; unfold worth; rw [HC.out]; simp [HA.out, HB.out, HE1.out, HFA.out, hl2, HFB.out, hl3]
              subst hu
              clear HU
              go_wp2_with fail
              exact bodyPost_ret (v := .tuple #[.int .i64 A, .int .i64 0]) (by simp [results, Try.results20, go_sem]) rfl ⟨rfl, HBW.out.trans (HB0_1.out.mono HBW.out.size)⟩
          · have HO := Lib.hid hiB
            have HFB : Hid (fits B = false) := Lib.hid (by unfold fits; unfold inI at hiB; exact decide_eq_false hiB)
            clear hiB
            refine Calls.mono (num.rmul_over _ _ _ HI.out.2.2.1 HI.out.2.2.2 (by rw [HB.out]; exact HO.out)) ?_
            rintro e8 W' ⟨⟨vv, rfl⟩, rfl⟩
            have hu : u = (0, 3) := by rw [← HU.out]; unfold worth; rw [HC.out]; simp [HA.out, HB.out, HE1.out, HFA.out, hl2, HFB.out]
            subst hu
            clear HU
            go_wp2_with fail
            exact bodyPost_ret (v := .tuple #[.int .i64 0, .int .i64 3]) (by simp [results, Try.results20, go_sem]) rfl ⟨rfl, HBW.out.trans (HB0_1.out.mono HBW.out.size)⟩
        · have hn2 : m ≤ f := by omega
          have hu : u = (A, 0) := by rw [← HU.out]; unfold worth; rw [HC.out]; simp [HA.out, HB.out, HE1.out, HFA.out, hl2]
          subst hu
          clear HU
          go_wp2_with fail
          exact bodyPost_ret (v := .tuple #[.int .i64 A, .int .i64 0]) (by simp [results, Try.results20, go_sem]) rfl ⟨rfl, HBW.out.trans (HB0_1.out.mono HBW.out.size)⟩
      · have HO := Lib.hid hiA
        have HFA : Hid (fits A = false) := Lib.hid (by unfold fits; unfold inI at hiA; exact decide_eq_false hiA)
        clear hiA
        refine Calls.mono (num.rmul_over _ _ _ HI.out.1 HI.out.2.1 (by rw [HA.out]; exact HO.out)) ?_
        rintro e7 W' ⟨⟨vv, rfl⟩, rfl⟩
        have hu : u = (0, 3) := by rw [← HU.out]; unfold worth; rw [HC.out]; simp [HA.out, HB.out, HE1.out, HFA.out]
        subst hu
        clear HU
        go_wp2_with fail
        exact bodyPost_ret (v := .tuple #[.int .i64 0, .int .i64 3]) (by simp [results, Try.results20, go_sem]) rfl ⟨rfl, HBW.out.trans (HB0_1.out.mono HBW.out.size)⟩
theorem rworth_is (i a y d q p f ph m r v : Int) (g : Bool) {n e : Int} (hf : (⟨i, a, y, d, q, p, f, ph, m, r, v, g⟩ : Or).fine) (h : worth ⟨i, a, y, d, q, p, f, ph, m, r, v, g⟩ = (n, e)) (w : World) : Calls Try.prog 20 #[.agg #[.int .i64 i, .int .i64 a, .int .i64 y, .int .i64 d, .int .i64 q, .int .i64 p, .int .i64 f, .int .i64 ph, .int .i64 m, .int .i64 r, .int .i64 v, .bool g]] w fun e' w' => e' = .returned (.tuple #[.int .i64 n, .int .i64 e]) ∧ Below w.heap.size w w' := by
  have key := rworth_any i a y d q p f ph m r v g hf w
  rw [h] at key
  exact key

end Go.Proofs.Ytfnapckjccjjjaa.order
