/-
  The contract of the document's own answer for layer 7: Begin.
-/
import Derived.Test.YtfnapckjccjjjaaOrdRef1
import Derived.Test.YtfnapckjccjjjaaRecRefN
import Derived.Deep.DeepCutAuto
import Derived.Test.YtfnapckjccjjjaaRecImpl2
namespace Go.Proofs.Ytfnapckjccjjjaa.order
open Go.RowKit Go.Proofs.Ytfnapckjccjjjaa
open Go.Proofs.Ytfnapckjccjjjaa.rec (cells13)
set_option linter.unusedVariables false
set_option linter.unusedSimpArgs false
set_option maxRecDepth 20000
set_option maxHeartbeats 8000000

theorem rbegin_any (k o a y d q p l s n : Int) (on : Bool) (z t : Int) (hf : (⟨k, o, a, y, d, q, p, l, s, n, on, z, t⟩ : rec.Rc).fine) (w : World) : Calls Try.prog 10 #[.agg #[.int .i64 k, .int .i64 o, .int .i64 a, .int .i64 y, .int .i64 d, .int .i64 q, .int .i64 p, .int .i64 l, .int .i64 s, .int .i64 n, .bool on, .int .i64 z, .int .i64 t]] w fun e w' => e = .returned (.tuple #[.agg (oc (begin_ ⟨k, o, a, y, d, q, p, l, s, n, on, z, t⟩).1), .bool (decide ((begin_ ⟨k, o, a, y, d, q, p, l, s, n, on, z, t⟩).2 = 0))]) ∧ Below w.heap.size w w' := by
  obtain ⟨W0, HW0⟩ : ∃ W, Hid ((((w.alloc (.cells #[.int .i64 k, .int .i64 o, .int .i64 a, .int .i64 y, .int .i64 d, .int .i64 q, .int .i64 p, .int .i64 l, .int .i64 s, .int .i64 n, .bool on, .int .i64 z, .int .i64 t] 25)).alloc (.cells #[.int .i64 0, .int .i64 0, .int .i64 0, .int .i64 0, .int .i64 0, .int .i64 0, .int .i64 0, .int .i64 0, .int .i64 0, .int .i64 0, .int .i64 0, .bool false] 23)).alloc (.cells #[.int .i64 0, .int .i64 0, .int .i64 0, .int .i64 0, .int .i64 0, .int .i64 0, .int .i64 0, .int .i64 0, .int .i64 0, .int .i64 0, .int .i64 0, .bool false] 23)) = W) := ⟨_, Lib.hid rfl⟩
  have HBW : Hid (Below w.heap.size w W0) := Lib.hid (by rw [← HW0.out]; exact (((Below.refl _ _).alloc (by simp) _).alloc (by simp; try omega) _).alloc (by simp; try omega) _)
  have HX0 : Hid (∀ W, Below W0.heap.size W0 W → W.heap[w.heap.size]? = some (.cells #[.int .i64 k, .int .i64 o, .int .i64 a, .int .i64 y, .int .i64 d, .int .i64 q, .int .i64 p, .int .i64 l, .int .i64 s, .int .i64 n, .bool on, .int .i64 z, .int .i64 t] 25 (0, 0))) := Lib.hid (fun W hb => (hb.block _ (by rw [← HW0.out]; simp; try omega)).trans (by rw [← HW0.out]; refine (Below.heap_alloc _ _ _ (by simp; try omega)).trans ?_; refine (Below.heap_alloc _ _ _ (by simp; try omega)).trans ?_; have := heap_alloc_new w (.cells #[.int .i64 k, .int .i64 o, .int .i64 a, .int .i64 y, .int .i64 d, .int .i64 q, .int .i64 p, .int .i64 l, .int .i64 s, .int .i64 n, .bool on, .int .i64 z, .int .i64 t] 25); exact this))
  have HX1 : Hid (∀ W, Below W0.heap.size W0 W → W.heap[w.heap.size + 1]? = some (.cells #[.int .i64 0, .int .i64 0, .int .i64 0, .int .i64 0, .int .i64 0, .int .i64 0, .int .i64 0, .int .i64 0, .int .i64 0, .int .i64 0, .int .i64 0, .bool false] 23 (0, 0))) := Lib.hid (fun W hb => (hb.block _ (by rw [← HW0.out]; simp; try omega)).trans (by rw [← HW0.out]; refine (Below.heap_alloc _ _ _ (by simp; try omega)).trans ?_; have := heap_alloc_new (w.alloc (.cells #[.int .i64 k, .int .i64 o, .int .i64 a, .int .i64 y, .int .i64 d, .int .i64 q, .int .i64 p, .int .i64 l, .int .i64 s, .int .i64 n, .bool on, .int .i64 z, .int .i64 t] 25)) (.cells #[.int .i64 0, .int .i64 0, .int .i64 0, .int .i64 0, .int .i64 0, .int .i64 0, .int .i64 0, .int .i64 0, .int .i64 0, .int .i64 0, .int .i64 0, .bool false] 23); simp only [World.size_alloc] at this; exact this))
  have HX2 : Hid (∀ W, Below W0.heap.size W0 W → W.heap[w.heap.size + 1 + 1]? = some (.cells #[.int .i64 0, .int .i64 0, .int .i64 0, .int .i64 0, .int .i64 0, .int .i64 0, .int .i64 0, .int .i64 0, .int .i64 0, .int .i64 0, .int .i64 0, .bool false] 23 (0, 0))) := Lib.hid (fun W hb => (hb.block _ (by rw [← HW0.out]; simp; try omega)).trans (by rw [← HW0.out]; have := heap_alloc_new ((w.alloc (.cells #[.int .i64 k, .int .i64 o, .int .i64 a, .int .i64 y, .int .i64 d, .int .i64 q, .int .i64 p, .int .i64 l, .int .i64 s, .int .i64 n, .bool on, .int .i64 z, .int .i64 t] 25)).alloc (.cells #[.int .i64 0, .int .i64 0, .int .i64 0, .int .i64 0, .int .i64 0, .int .i64 0, .int .i64 0, .int .i64 0, .int .i64 0, .int .i64 0, .int .i64 0, .bool false] 23)) (.cells #[.int .i64 0, .int .i64 0, .int .i64 0, .int .i64 0, .int .i64 0, .int .i64 0, .int .i64 0, .int .i64 0, .int .i64 0, .int .i64 0, .int .i64 0, .bool false] 23); simp only [World.size_alloc] at this; exact this))
  have HF := Lib.hid hf
  obtain ⟨m, HM⟩ : ∃ x, Hid (rec.right ⟨k, o, a, y, d, q, p, l, s, n, on, z, t⟩ = x) := ⟨_, Lib.hid rfl⟩
  obtain ⟨u, HU⟩ : ∃ u, Hid (begin_ ⟨k, o, a, y, d, q, p, l, s, n, on, z, t⟩ = u) := ⟨_, Lib.hid rfl⟩
  rw [HU.out]
  clear hf
  go_enter Try.func10, Try.ntmps10
  rcases eq_cases k 1 with ⟨HE1, he1, hf1⟩ | ⟨HE1, he1, hf1⟩
  · go_wp2_with fail
    refine Calls.mono (rec.rright_is k o a y d q p l s n on z t HF.out HM.out _) ?_
    rintro e1 W1 ⟨rfl, hb⟩
    rw [HW0.out] at hb
    have HB0_1 : Hid (Below W0.heap.size W0 W1) := Lib.hid (hb)
    clear hb
    rcases m with _ | _
    · have hu : u = (oz, 1) := by rw [← HU.out]; unfold begin_; rw [HM.out]; simp
      subst hu
      clear HU
      have hwh : World.whole W1 (w.heap.size + 1) 12 23 := whole_of (HX1.out W1 HB0_1.out) rfl
      obtain ⟨c0, c1, c2, c3, c4, c5, c6, c7, c8, c9, c10, c11⟩ := cells12 (HX2.out W1 HB0_1.out)
      go_wp2_with (refine wpList_store_whole 23 (.tmp 2) (.tmp 14) (w.heap.size + 1) 12 _ 23 (by rfl) (by rfl) hwh (by rfl) (by kernel_rfl) (by kernel_rfl) ?_)
      obtain ⟨v0, v1, v2, v3, v4, v5, v6, v7, v8, v9, v10, v11⟩ := cells12 (setAll_self (vs := #[.int .i64 0, .int .i64 0, .int .i64 0, .int .i64 0, .int .i64 0, .int .i64 0, .int .i64 0, .int .i64 0, .int .i64 0, .int .i64 0, .int .i64 0, .bool false]) hwh rfl)
      exact bodyPost_ret (v := .tuple #[.agg #[.int .i64 0, .int .i64 0, .int .i64 0, .int .i64 0, .int .i64 0, .int .i64 0, .int .i64 0, .int .i64 0, .int .i64 0, .int .i64 0, .int .i64 0, .bool false], .bool false]) (by simp [results, Try.results10, go_sem, v0, v1, v2, v3, v4, v5, v6, v7, v8, v9, v10, v11]) rfl ⟨rfl, setAll_below (HBW.out.trans (HB0_1.out.mono HBW.out.size)) (by omega)⟩
    · have HEK := HE1.out
      have hu : u = (⟨o, a, y, d, q, p, 0, 1, 0, 0, 0, false⟩, 0) := by rw [← HU.out]; unfold begin_; rw [HM.out]; simp [HEK]
      subst hu
      clear HU
      obtain ⟨k_0, k_1, k_2, k_3, k_4, k_5, k_6, k_7, k_8, k_9, k_10, k_11, k_12⟩ := cells13 (HX0.out W1 HB0_1.out)
      obtain ⟨c0, c1, c2, c3, c4, c5, c6, c7, c8, c9, c10, c11⟩ := cells12 (HX2.out W1 HB0_1.out)
      have z0 := (block_cell (HX2.out W1 HB0_1.out) 0 (.int .i64 0) rfl).2
      have z1 := (block_cell (HX2.out W1 HB0_1.out) 1 (.int .i64 0) rfl).2
      have z2 := (block_cell (HX2.out W1 HB0_1.out) 2 (.int .i64 0) rfl).2
      have z3 := (block_cell (HX2.out W1 HB0_1.out) 3 (.int .i64 0) rfl).2
      have z4 := (block_cell (HX2.out W1 HB0_1.out) 4 (.int .i64 0) rfl).2
      have z5 := (block_cell (HX2.out W1 HB0_1.out) 5 (.int .i64 0) rfl).2
      have z7 := (block_cell (HX2.out W1 HB0_1.out) 7 (.int .i64 0) rfl).2
      go_upto_region 11 with fail
      have hS0 : W1.heap[w.heap.size + 1 + 1]? = some (.cells #[.int .i64 0, .int .i64 0, .int .i64 0, .int .i64 0, .int .i64 0, .int .i64 0, .int .i64 0, .int .i64 0, .int .i64 0, .int .i64 0, .int .i64 0, .bool false] 23 (0, 0)) := HX2.out W1 HB0_1.out
      have hS1 : (W1.setCell ⟨w.heap.size + 1 + 1, 0, none⟩ (.int .i64 o)).heap[w.heap.size + 1 + 1]? = some (.cells #[.int .i64 o, .int .i64 0, .int .i64 0, .int .i64 0, .int .i64 0, .int .i64 0, .int .i64 0, .int .i64 0, .int .i64 0, .int .i64 0, .int .i64 0, .bool false] 23 (0, 0)) := by have := heap_setCell_same W1 (w.heap.size + 1 + 1) 0 _ 23 (.int .i64 o) hS0; simpa using this
      have hS2 : ((W1.setCell ⟨w.heap.size + 1 + 1, 0, none⟩ (.int .i64 o)).setCell ⟨w.heap.size + 1 + 1, 1, none⟩ (.int .i64 a)).heap[w.heap.size + 1 + 1]? = some (.cells #[.int .i64 o, .int .i64 a, .int .i64 0, .int .i64 0, .int .i64 0, .int .i64 0, .int .i64 0, .int .i64 0, .int .i64 0, .int .i64 0, .int .i64 0, .bool false] 23 (0, 0)) := by have := heap_setCell_same (W1.setCell ⟨w.heap.size + 1 + 1, 0, none⟩ (.int .i64 o)) (w.heap.size + 1 + 1) 1 _ 23 (.int .i64 a) hS1; simpa using this
      have hS3 : (((W1.setCell ⟨w.heap.size + 1 + 1, 0, none⟩ (.int .i64 o)).setCell ⟨w.heap.size + 1 + 1, 1, none⟩ (.int .i64 a)).setCell ⟨w.heap.size + 1 + 1, 2, none⟩ (.int .i64 y)).heap[w.heap.size + 1 + 1]? = some (.cells #[.int .i64 o, .int .i64 a, .int .i64 y, .int .i64 0, .int .i64 0, .int .i64 0, .int .i64 0, .int .i64 0, .int .i64 0, .int .i64 0, .int .i64 0, .bool false] 23 (0, 0)) := by have := heap_setCell_same ((W1.setCell ⟨w.heap.size + 1 + 1, 0, none⟩ (.int .i64 o)).setCell ⟨w.heap.size + 1 + 1, 1, none⟩ (.int .i64 a)) (w.heap.size + 1 + 1) 2 _ 23 (.int .i64 y) hS2; simpa using this
      have hS4 : ((((W1.setCell ⟨w.heap.size + 1 + 1, 0, none⟩ (.int .i64 o)).setCell ⟨w.heap.size + 1 + 1, 1, none⟩ (.int .i64 a)).setCell ⟨w.heap.size + 1 + 1, 2, none⟩ (.int .i64 y)).setCell ⟨w.heap.size + 1 + 1, 3, none⟩ (.int .i64 d)).heap[w.heap.size + 1 + 1]? = some (.cells #[.int .i64 o, .int .i64 a, .int .i64 y, .int .i64 d, .int .i64 0, .int .i64 0, .int .i64 0, .int .i64 0, .int .i64 0, .int .i64 0, .int .i64 0, .bool false] 23 (0, 0)) := by have := heap_setCell_same (((W1.setCell ⟨w.heap.size + 1 + 1, 0, none⟩ (.int .i64 o)).setCell ⟨w.heap.size + 1 + 1, 1, none⟩ (.int .i64 a)).setCell ⟨w.heap.size + 1 + 1, 2, none⟩ (.int .i64 y)) (w.heap.size + 1 + 1) 3 _ 23 (.int .i64 d) hS3; simpa using this
      have hS5 : (((((W1.setCell ⟨w.heap.size + 1 + 1, 0, none⟩ (.int .i64 o)).setCell ⟨w.heap.size + 1 + 1, 1, none⟩ (.int .i64 a)).setCell ⟨w.heap.size + 1 + 1, 2, none⟩ (.int .i64 y)).setCell ⟨w.heap.size + 1 + 1, 3, none⟩ (.int .i64 d)).setCell ⟨w.heap.size + 1 + 1, 4, none⟩ (.int .i64 q)).heap[w.heap.size + 1 + 1]? = some (.cells #[.int .i64 o, .int .i64 a, .int .i64 y, .int .i64 d, .int .i64 q, .int .i64 0, .int .i64 0, .int .i64 0, .int .i64 0, .int .i64 0, .int .i64 0, .bool false] 23 (0, 0)) := by have := heap_setCell_same ((((W1.setCell ⟨w.heap.size + 1 + 1, 0, none⟩ (.int .i64 o)).setCell ⟨w.heap.size + 1 + 1, 1, none⟩ (.int .i64 a)).setCell ⟨w.heap.size + 1 + 1, 2, none⟩ (.int .i64 y)).setCell ⟨w.heap.size + 1 + 1, 3, none⟩ (.int .i64 d)) (w.heap.size + 1 + 1) 4 _ 23 (.int .i64 q) hS4; simpa using this
      have hS6 : ((((((W1.setCell ⟨w.heap.size + 1 + 1, 0, none⟩ (.int .i64 o)).setCell ⟨w.heap.size + 1 + 1, 1, none⟩ (.int .i64 a)).setCell ⟨w.heap.size + 1 + 1, 2, none⟩ (.int .i64 y)).setCell ⟨w.heap.size + 1 + 1, 3, none⟩ (.int .i64 d)).setCell ⟨w.heap.size + 1 + 1, 4, none⟩ (.int .i64 q)).setCell ⟨w.heap.size + 1 + 1, 5, none⟩ (.int .i64 p)).heap[w.heap.size + 1 + 1]? = some (.cells #[.int .i64 o, .int .i64 a, .int .i64 y, .int .i64 d, .int .i64 q, .int .i64 p, .int .i64 0, .int .i64 0, .int .i64 0, .int .i64 0, .int .i64 0, .bool false] 23 (0, 0)) := by have := heap_setCell_same (((((W1.setCell ⟨w.heap.size + 1 + 1, 0, none⟩ (.int .i64 o)).setCell ⟨w.heap.size + 1 + 1, 1, none⟩ (.int .i64 a)).setCell ⟨w.heap.size + 1 + 1, 2, none⟩ (.int .i64 y)).setCell ⟨w.heap.size + 1 + 1, 3, none⟩ (.int .i64 d)).setCell ⟨w.heap.size + 1 + 1, 4, none⟩ (.int .i64 q)) (w.heap.size + 1 + 1) 5 _ 23 (.int .i64 p) hS5; simpa using this
      have hS7 : (((((((W1.setCell ⟨w.heap.size + 1 + 1, 0, none⟩ (.int .i64 o)).setCell ⟨w.heap.size + 1 + 1, 1, none⟩ (.int .i64 a)).setCell ⟨w.heap.size + 1 + 1, 2, none⟩ (.int .i64 y)).setCell ⟨w.heap.size + 1 + 1, 3, none⟩ (.int .i64 d)).setCell ⟨w.heap.size + 1 + 1, 4, none⟩ (.int .i64 q)).setCell ⟨w.heap.size + 1 + 1, 5, none⟩ (.int .i64 p)).setCell ⟨w.heap.size + 1 + 1, 7, none⟩ (.int .i64 1)).heap[w.heap.size + 1 + 1]? = some (.cells #[.int .i64 o, .int .i64 a, .int .i64 y, .int .i64 d, .int .i64 q, .int .i64 p, .int .i64 0, .int .i64 1, .int .i64 0, .int .i64 0, .int .i64 0, .bool false] 23 (0, 0)) := by have := heap_setCell_same ((((((W1.setCell ⟨w.heap.size + 1 + 1, 0, none⟩ (.int .i64 o)).setCell ⟨w.heap.size + 1 + 1, 1, none⟩ (.int .i64 a)).setCell ⟨w.heap.size + 1 + 1, 2, none⟩ (.int .i64 y)).setCell ⟨w.heap.size + 1 + 1, 3, none⟩ (.int .i64 d)).setCell ⟨w.heap.size + 1 + 1, 4, none⟩ (.int .i64 q)).setCell ⟨w.heap.size + 1 + 1, 5, none⟩ (.int .i64 p)) (w.heap.size + 1 + 1) 7 _ 23 (.int .i64 1) hS6; simpa using this
      obtain ⟨W2, hW2⟩ : ∃ W, W = (((((((W1.setCell ⟨w.heap.size + 1 + 1, 0, none⟩ (.int .i64 o)).setCell ⟨w.heap.size + 1 + 1, 1, none⟩ (.int .i64 a)).setCell ⟨w.heap.size + 1 + 1, 2, none⟩ (.int .i64 y)).setCell ⟨w.heap.size + 1 + 1, 3, none⟩ (.int .i64 d)).setCell ⟨w.heap.size + 1 + 1, 4, none⟩ (.int .i64 q)).setCell ⟨w.heap.size + 1 + 1, 5, none⟩ (.int .i64 p)).setCell ⟨w.heap.size + 1 + 1, 7, none⟩ (.int .i64 1)) := ⟨_, rfl⟩
      rw [← hW2]
      rw [← hW2] at hS7
      have HBS : Hid (Below w.heap.size w W2) := Lib.hid (by rw [hW2]; exact (((((((HBW.out.trans (HB0_1.out.mono HBW.out.size)).setCell (p := ⟨w.heap.size + 1 + 1, 0, none⟩) (by simp; omega) _).setCell (p := ⟨w.heap.size + 1 + 1, 1, none⟩) (by simp; omega) _).setCell (p := ⟨w.heap.size + 1 + 1, 2, none⟩) (by simp; omega) _).setCell (p := ⟨w.heap.size + 1 + 1, 3, none⟩) (by simp; omega) _).setCell (p := ⟨w.heap.size + 1 + 1, 4, none⟩) (by simp; omega) _).setCell (p := ⟨w.heap.size + 1 + 1, 5, none⟩) (by simp; omega) _).setCell (p := ⟨w.heap.size + 1 + 1, 7, none⟩) (by simp; omega) _)
      have hR : W2.heap[w.heap.size + 1]? = some (.cells #[.int .i64 0, .int .i64 0, .int .i64 0, .int .i64 0, .int .i64 0, .int .i64 0, .int .i64 0, .int .i64 0, .int .i64 0, .int .i64 0, .int .i64 0, .bool false] 23 (0, 0)) := by rw [hW2]; exact (Below.heap_setCell _ _ _ _ (by simp)).trans ((Below.heap_setCell _ _ _ _ (by simp)).trans ((Below.heap_setCell _ _ _ _ (by simp)).trans ((Below.heap_setCell _ _ _ _ (by simp)).trans ((Below.heap_setCell _ _ _ _ (by simp)).trans ((Below.heap_setCell _ _ _ _ (by simp)).trans ((Below.heap_setCell _ _ _ _ (by simp)).trans (HX1.out W1 HB0_1.out)))))))
      have hwh : World.whole W2 (w.heap.size + 1) 12 23 := whole_of hR rfl
      clear c0 c1 c2 c3 c4 c5 c6 c7 c8 c9 c10 c11
      obtain ⟨c0, c1, c2, c3, c4, c5, c6, c7, c8, c9, c10, c11⟩ := cells12 hS7
      clear hR hS0 hS1 hS2 hS3 hS4 hS5 hS6 hS7 hW2
      go_wp2_with (refine wpList_store_whole 23 (.tmp 2) (.tmp 34) (w.heap.size + 1) 12 _ 23 (by rfl) (by rfl) hwh (by rfl) (by kernel_rfl) (by kernel_rfl) ?_)
      obtain ⟨v0, v1, v2, v3, v4, v5, v6, v7, v8, v9, v10, v11⟩ := cells12 (setAll_self (vs := #[.int .i64 o, .int .i64 a, .int .i64 y, .int .i64 d, .int .i64 q, .int .i64 p, .int .i64 0, .int .i64 1, .int .i64 0, .int .i64 0, .int .i64 0, .bool false]) hwh rfl)
      exact bodyPost_ret (v := .tuple #[.agg #[.int .i64 o, .int .i64 a, .int .i64 y, .int .i64 d, .int .i64 q, .int .i64 p, .int .i64 0, .int .i64 1, .int .i64 0, .int .i64 0, .int .i64 0, .bool false], .bool true]) (by simp [results, Try.results10, go_sem, v0, v1, v2, v3, v4, v5, v6, v7, v8, v9, v10, v11]) rfl ⟨rfl, setAll_below HBS.out (by omega)⟩
  · have hu : u = (oz, 1) := by rw [← HU.out]; unfold begin_; simp [HE1.out]
    subst hu
    clear HU
    go_wp2_with fail
    exact bodyPost_ret (v := .tuple #[.agg #[.int .i64 0, .int .i64 0, .int .i64 0, .int .i64 0, .int .i64 0, .int .i64 0, .int .i64 0, .int .i64 0, .int .i64 0, .int .i64 0, .int .i64 0, .bool false], .bool false]) (by simp [results, Try.results10, go_sem]) rfl ⟨rfl, by rw [HW0.out]; exact HBW.out⟩
theorem rbegin_is (k o a y d q p l s n : Int) (on : Bool) (z t : Int) {i' a' y' d' q' p' f' ph' m' r' v' : Int} {g' : Bool} {e : Int} (hf : (⟨k, o, a, y, d, q, p, l, s, n, on, z, t⟩ : rec.Rc).fine) (h : begin_ ⟨k, o, a, y, d, q, p, l, s, n, on, z, t⟩ = (⟨i', a', y', d', q', p', f', ph', m', r', v', g'⟩, e)) (w : World) : Calls Try.prog 10 #[.agg #[.int .i64 k, .int .i64 o, .int .i64 a, .int .i64 y, .int .i64 d, .int .i64 q, .int .i64 p, .int .i64 l, .int .i64 s, .int .i64 n, .bool on, .int .i64 z, .int .i64 t]] w fun e' w' => e' = .returned (.tuple #[.agg #[.int .i64 i', .int .i64 a', .int .i64 y', .int .i64 d', .int .i64 q', .int .i64 p', .int .i64 f', .int .i64 ph', .int .i64 m', .int .i64 r', .int .i64 v', .bool g'], .bool (decide (e = 0))]) ∧ Below w.heap.size w w' := by
  have key := rbegin_any k o a y d q p l s n on z t hf w
  rw [h] at key
  exact key

end Go.Proofs.Ytfnapckjccjjjaa.order
