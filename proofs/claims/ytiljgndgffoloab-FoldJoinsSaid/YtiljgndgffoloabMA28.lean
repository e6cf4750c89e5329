/-
  OrdImpl2
-/
import Derived.Test.YtiljgndgffoloabMA22
import Derived.Deep.DeepCutAuto
namespace Go.Proofs.Ytiljgndgffoloab.order
open Go.RowKit Go.Proofs.Ytiljgndgffoloab
open Go.Proofs.Ytiljgndgffoloab.rec (retB)
set_option linter.unusedVariables false
set_option linter.unusedSimpArgs false
set_option maxRecDepth 20000
set_option maxHeartbeats 8000000

def can (o : Or) (n : Nt) : Bool := decide (((n.t = 1 ∨ n.t = 2) ∧ o.h = 1) ∨ (n.t = 3 ∧ o.h = 2 ∧ n.q ≤ o.q - o.f) ∨ (n.t = 4 ∧ o.h = 2) ∨ (n.t = 5 ∧ o.h = 2 ∧ o.m ≠ 0 ∧ n.q = o.m ∧ n.p = o.r ∧ o.f < n.q) ∨ (n.t = 6 ∧ o.h = 2 ∧ o.m ≠ 0))
def told (o : Or) (n : Nt) : Or := if n.t = 1 then { o with h := 2 } else if n.t = 2 ∨ n.t = 4 then done o else if n.t = 3 then (if o.f + n.q = o.q then done { o with f := o.f + n.q } else { o with f := o.f + n.q }) else if n.t = 5 then { o with q := n.q, p := n.p, m := 0, r := 0 } else if n.t = 6 then { o with m := 0, r := 0 } else o
theorem take_can {o : Or} {n : Nt} (h1 : right o = true) (h2 : noteOk n = true) (h3 : n.o = o.i) : take o n = if can o n = true then (told o n, 0) else (o, 8) := by
  have hr := right_iff.1 h1
  have hn := (noteOk_iff.1 h2).2.2
  unfold take
  rw [h1, h2, if_neg (by simp [h3])]
  obtain ⟨i, a, y, d, q, p, f, ph, m, r, v, g⟩ := o
  obtain ⟨zN, tN, oN, qN, pN⟩ := n
  unfold Rightly at hr
  simp only at hr hn h3
  by_cases t1 : tN = 1
  · subst t1
    by_cases hp : ph = 1 <;> simp [can, told, hp]
  by_cases t2 : tN = 2
  · subst t2
    by_cases hp : ph = 1 <;> simp [can, told, hp]
  by_cases t3 : tN = 3
  · subst t3
    have hq := (tell_fill hn).1
    by_cases hp : ph = 2
    · subst hp
      by_cases hl : qN ≤ q - f
      · by_cases he : f + qN = q
        · simp [can, told, hl, he, show ¬ qN < q - f by omega]
        · simp [can, told, hl, he, show qN < q - f by omega]
      · simp [can, told, hl]
    · simp [can, told, hp]
  by_cases t4 : tN = 4
  · subst t4
    by_cases hp : ph = 2 <;> simp [can, told, hp]
  by_cases t5 : tN = 5
  · subst t5
    by_cases hp : ph = 2
    · by_cases hm : m = 0
      · simp [can, told, hp, hm]
      · have hm' : 0 < m := by omega
        by_cases hc : qN = m ∧ pN = r ∧ f < qN
        · simp [can, told, hp, hm, hm', hc]
        · simp [can, told, hp, hm, hm', hc]
    · simp [can, told, hp]
  by_cases t6 : tN = 6
  · subst t6
    by_cases hp : ph = 2
    · by_cases hm : m = 0
      · simp [can, told, hp, hm]
      · have hm' : 0 < m := by omega
        simp [can, told, hp, hm, hm']
    · simp [can, told, hp]
  simp [can, told, t1, t2, t3, t4, t5, t6]

theorem settled_is (i a y d q p f ph m r v : Int) (g : Bool) (w : World) : Calls Try.prog 92 #[.agg #[.int .i64 i, .int .i64 a, .int .i64 y, .int .i64 d, .int .i64 q, .int .i64 p, .int .i64 f, .int .i64 ph, .int .i64 m, .int .i64 r, .int .i64 v, .bool g]] w fun e w' => e = .returned (.agg #[.int .i64 i, .int .i64 a, .int .i64 y, .int .i64 d, .int .i64 q, .int .i64 p, .int .i64 f, .int .i64 ph, .int .i64 0, .int .i64 0, .int .i64 v, .bool g]) ∧ Below w.heap.size w w' := by
  obtain ⟨W0, HW0⟩ : ∃ W, Hid (((w.alloc (.cells #[.int .i64 i, .int .i64 a, .int .i64 y, .int .i64 d, .int .i64 q, .int .i64 p, .int .i64 f, .int .i64 ph, .int .i64 m, .int .i64 r, .int .i64 v, .bool g] 47)).alloc (.cells #[.int .i64 0, .int .i64 0, .int .i64 0, .int .i64 0, .int .i64 0, .int .i64 0, .int .i64 0, .int .i64 0, .int .i64 0, .int .i64 0, .int .i64 0, .bool false] 47)) = W) := ⟨_, Lib.hid rfl⟩
  have HBW : Hid (Below w.heap.size w W0) := Lib.hid (by rw [← HW0.out]; exact ((Below.refl _ _).alloc (by simp) _).alloc (by simp; try omega) _)
  have HX0 : Hid (∀ W, Below W0.heap.size W0 W → W.heap[w.heap.size]? = some (.cells #[.int .i64 i, .int .i64 a, .int .i64 y, .int .i64 d, .int .i64 q, .int .i64 p, .int .i64 f, .int .i64 ph, .int .i64 m, .int .i64 r, .int .i64 v, .bool g] 47 (0, 0))) := Lib.hid (fun W hb => (hb.block _ (by rw [← HW0.out]; simp; try omega)).trans (by rw [← HW0.out]; refine (Below.heap_alloc _ _ _ (by simp; try omega)).trans ?_; have := heap_alloc_new w (.cells #[.int .i64 i, .int .i64 a, .int .i64 y, .int .i64 d, .int .i64 q, .int .i64 p, .int .i64 f, .int .i64 ph, .int .i64 m, .int .i64 r, .int .i64 v, .bool g] 47); exact this))
  have HX1 : Hid (∀ W, Below W0.heap.size W0 W → W.heap[w.heap.size + 1]? = some (.cells #[.int .i64 0, .int .i64 0, .int .i64 0, .int .i64 0, .int .i64 0, .int .i64 0, .int .i64 0, .int .i64 0, .int .i64 0, .int .i64 0, .int .i64 0, .bool false] 47 (0, 0))) := Lib.hid (fun W hb => (hb.block _ (by rw [← HW0.out]; simp; try omega)).trans (by rw [← HW0.out]; have := heap_alloc_new (w.alloc (.cells #[.int .i64 i, .int .i64 a, .int .i64 y, .int .i64 d, .int .i64 q, .int .i64 p, .int .i64 f, .int .i64 ph, .int .i64 m, .int .i64 r, .int .i64 v, .bool g] 47)) (.cells #[.int .i64 0, .int .i64 0, .int .i64 0, .int .i64 0, .int .i64 0, .int .i64 0, .int .i64 0, .int .i64 0, .int .i64 0, .int .i64 0, .int .i64 0, .bool false] 47); simp only [World.size_alloc] at this; exact this))
  go_enter Try.func92, Try.ntmps92
  go_upto_region 1 with fail
  rw [HW0.out]
  obtain ⟨k_0, k_1, k_2, k_3, k_4, k_5, k_6, k_7, k_8, k_9, k_10, k_11⟩ := cells12 (HX0.out W0 (Below.refl _ _))
  have z8 := (block_cell (HX0.out W0 (Below.refl _ _)) 8 (.int .i64 m) rfl).2
  have z9 := (block_cell (HX0.out W0 (Below.refl _ _)) 9 (.int .i64 r) rfl).2
  go_upto_region 2 with fail
  have hS0 : W0.heap[w.heap.size]? = some (.cells #[.int .i64 i, .int .i64 a, .int .i64 y, .int .i64 d, .int .i64 q, .int .i64 p, .int .i64 f, .int .i64 ph, .int .i64 m, .int .i64 r, .int .i64 v, .bool g] 47 (0, 0)) := HX0.out W0 (Below.refl _ _)
  have hS1 : (W0.setCell ⟨w.heap.size, 8, none⟩ (.int .i64 0)).heap[w.heap.size]? = some (.cells #[.int .i64 i, .int .i64 a, .int .i64 y, .int .i64 d, .int .i64 q, .int .i64 p, .int .i64 f, .int .i64 ph, .int .i64 0, .int .i64 r, .int .i64 v, .bool g] 47 (0, 0)) := by have := heap_setCell_same W0 (w.heap.size) 8 _ 47 (.int .i64 0) hS0; simpa using this
  have hS2 : ((W0.setCell ⟨w.heap.size, 8, none⟩ (.int .i64 0)).setCell ⟨w.heap.size, 9, none⟩ (.int .i64 0)).heap[w.heap.size]? = some (.cells #[.int .i64 i, .int .i64 a, .int .i64 y, .int .i64 d, .int .i64 q, .int .i64 p, .int .i64 f, .int .i64 ph, .int .i64 0, .int .i64 0, .int .i64 v, .bool g] 47 (0, 0)) := by have := heap_setCell_same (W0.setCell ⟨w.heap.size, 8, none⟩ (.int .i64 0)) (w.heap.size) 9 _ 47 (.int .i64 0) hS1; simpa using this
  obtain ⟨W1, hW1⟩ : ∃ W, W = ((W0.setCell ⟨w.heap.size, 8, none⟩ (.int .i64 0)).setCell ⟨w.heap.size, 9, none⟩ (.int .i64 0)) := ⟨_, rfl⟩
  rw [← hW1]
  rw [← hW1] at hS2
  have HBS : Hid (Below w.heap.size w W1) := Lib.hid (by rw [hW1]; exact ((HBW.out.trans ((Below.refl _ _).mono HBW.out.size)).setCell (p := ⟨w.heap.size, 8, none⟩) (by simp) _).setCell (p := ⟨w.heap.size, 9, none⟩) (by simp) _)
  have hRz : W1.heap[w.heap.size + 1]? = some (.cells #[.int .i64 0, .int .i64 0, .int .i64 0, .int .i64 0, .int .i64 0, .int .i64 0, .int .i64 0, .int .i64 0, .int .i64 0, .int .i64 0, .int .i64 0, .bool false] 47 (0, 0)) := by rw [hW1]; exact (Below.heap_setCell _ _ _ _ (by simp; try omega)).trans ((Below.heap_setCell _ _ _ _ (by simp; try omega)).trans ((HX1.out W0 (Below.refl _ _))))
  have hsz : W1.heap.size = W0.heap.size := by rw [hW1]; simp
  have hS : W1.heap[w.heap.size]? = some (.cells #[.int .i64 i, .int .i64 a, .int .i64 y, .int .i64 d, .int .i64 q, .int .i64 p, .int .i64 f, .int .i64 ph, .int .i64 0, .int .i64 0, .int .i64 v, .bool g] 47 (0, 0)) := hS2
  clear hW1 hS0 hS1 hS2
  clear z8 z9 k_0 k_1 k_2 k_3 k_4 k_5 k_6 k_7 k_8 k_9 k_10 k_11
  obtain ⟨c0, c1, c2, c3, c4, c5, c6, c7, c8, c9, c10, c11⟩ := cells12 hS
  have hwh : World.whole W1 (w.heap.size + 1) 12 47 := whole_of hRz rfl
  go_wp2_with (refine wpList_store_whole 47 (.tmp 2) (.tmp 5) (w.heap.size + 1) 12 _ 47 (by rfl) (by rfl) hwh (by rfl) (by kernel_rfl) (by kernel_rfl) ?_)
  obtain ⟨v0, v1, v2, v3, v4, v5, v6, v7, v8, v9, v10, v11⟩ := cells12 (setAll_self (vs := #[.int .i64 i, .int .i64 a, .int .i64 y, .int .i64 d, .int .i64 q, .int .i64 p, .int .i64 f, .int .i64 ph, .int .i64 0, .int .i64 0, .int .i64 v, .bool g]) hwh rfl)
  exact bodyPost_ret (v := .agg #[.int .i64 i, .int .i64 a, .int .i64 y, .int .i64 d, .int .i64 q, .int .i64 p, .int .i64 f, .int .i64 ph, .int .i64 0, .int .i64 0, .int .i64 v, .bool g]) (by simp [results, Try.results92, go_sem, v0, v1, v2, v3, v4, v5, v6, v7, v8, v9, v10, v11]) rfl ⟨rfl, setAll_below HBS.out (by omega)⟩

theorem done_is (i a y d q p f ph m r v : Int) (g : Bool) (w : World) : Calls Try.prog 91 #[.agg #[.int .i64 i, .int .i64 a, .int .i64 y, .int .i64 d, .int .i64 q, .int .i64 p, .int .i64 f, .int .i64 ph, .int .i64 m, .int .i64 r, .int .i64 v, .bool g]] w fun e w' => e = .returned (.agg #[.int .i64 i, .int .i64 a, .int .i64 y, .int .i64 d, .int .i64 q, .int .i64 p, .int .i64 f, .int .i64 3, .int .i64 0, .int .i64 0, .int .i64 v, .bool g]) ∧ Below w.heap.size w w' := by
  obtain ⟨W0, HW0⟩ : ∃ W, Hid (((w.alloc (.cells #[.int .i64 i, .int .i64 a, .int .i64 y, .int .i64 d, .int .i64 q, .int .i64 p, .int .i64 f, .int .i64 ph, .int .i64 m, .int .i64 r, .int .i64 v, .bool g] 47)).alloc (.cells #[.int .i64 0, .int .i64 0, .int .i64 0, .int .i64 0, .int .i64 0, .int .i64 0, .int .i64 0, .int .i64 0, .int .i64 0, .int .i64 0, .int .i64 0, .bool false] 47)) = W) := ⟨_, Lib.hid rfl⟩
  have HBW : Hid (Below w.heap.size w W0) := Lib.hid (by rw [← HW0.out]; exact ((Below.refl _ _).alloc (by simp) _).alloc (by simp; try omega) _)
  have HX0 : Hid (∀ W, Below W0.heap.size W0 W → W.heap[w.heap.size]? = some (.cells #[.int .i64 i, .int .i64 a, .int .i64 y, .int .i64 d, .int .i64 q, .int .i64 p, .int .i64 f, .int .i64 ph, .int .i64 m, .int .i64 r, .int .i64 v, .bool g] 47 (0, 0))) := Lib.hid (fun W hb => (hb.block _ (by rw [← HW0.out]; simp; try omega)).trans (by rw [← HW0.out]; refine (Below.heap_alloc _ _ _ (by simp; try omega)).trans ?_; have := heap_alloc_new w (.cells #[.int .i64 i, .int .i64 a, .int .i64 y, .int .i64 d, .int .i64 q, .int .i64 p, .int .i64 f, .int .i64 ph, .int .i64 m, .int .i64 r, .int .i64 v, .bool g] 47); exact this))
  have HX1 : Hid (∀ W, Below W0.heap.size W0 W → W.heap[w.heap.size + 1]? = some (.cells #[.int .i64 0, .int .i64 0, .int .i64 0, .int .i64 0, .int .i64 0, .int .i64 0, .int .i64 0, .int .i64 0, .int .i64 0, .int .i64 0, .int .i64 0, .bool false] 47 (0, 0))) := Lib.hid (fun W hb => (hb.block _ (by rw [← HW0.out]; simp; try omega)).trans (by rw [← HW0.out]; have := heap_alloc_new (w.alloc (.cells #[.int .i64 i, .int .i64 a, .int .i64 y, .int .i64 d, .int .i64 q, .int .i64 p, .int .i64 f, .int .i64 ph, .int .i64 m, .int .i64 r, .int .i64 v, .bool g] 47)) (.cells #[.int .i64 0, .int .i64 0, .int .i64 0, .int .i64 0, .int .i64 0, .int .i64 0, .int .i64 0, .int .i64 0, .int .i64 0, .int .i64 0, .int .i64 0, .bool false] 47); simp only [World.size_alloc] at this; exact this))
  go_enter Try.func91, Try.ntmps91
  go_upto_region 1 with fail
  rw [HW0.out]
  obtain ⟨k_0, k_1, k_2, k_3, k_4, k_5, k_6, k_7, k_8, k_9, k_10, k_11⟩ := cells12 (HX0.out W0 (Below.refl _ _))
  have z7 := (block_cell (HX0.out W0 (Below.refl _ _)) 7 (.int .i64 ph) rfl).2
  go_upto_region 2 with fail
  have hS0 : W0.heap[w.heap.size]? = some (.cells #[.int .i64 i, .int .i64 a, .int .i64 y, .int .i64 d, .int .i64 q, .int .i64 p, .int .i64 f, .int .i64 ph, .int .i64 m, .int .i64 r, .int .i64 v, .bool g] 47 (0, 0)) := HX0.out W0 (Below.refl _ _)
  have hS1 : (W0.setCell ⟨w.heap.size, 7, none⟩ (.int .i64 3)).heap[w.heap.size]? = some (.cells #[.int .i64 i, .int .i64 a, .int .i64 y, .int .i64 d, .int .i64 q, .int .i64 p, .int .i64 f, .int .i64 3, .int .i64 m, .int .i64 r, .int .i64 v, .bool g] 47 (0, 0)) := by have := heap_setCell_same W0 (w.heap.size) 7 _ 47 (.int .i64 3) hS0; simpa using this
  obtain ⟨W1, hW1⟩ : ∃ W, W = (W0.setCell ⟨w.heap.size, 7, none⟩ (.int .i64 3)) := ⟨_, rfl⟩
  rw [← hW1]
  rw [← hW1] at hS1
  have HBS : Hid (Below w.heap.size w W1) := Lib.hid (by rw [hW1]; exact (HBW.out.trans ((Below.refl _ _).mono HBW.out.size)).setCell (p := ⟨w.heap.size, 7, none⟩) (by simp) _)
  have hRz : W1.heap[w.heap.size + 1]? = some (.cells #[.int .i64 0, .int .i64 0, .int .i64 0, .int .i64 0, .int .i64 0, .int .i64 0, .int .i64 0, .int .i64 0, .int .i64 0, .int .i64 0, .int .i64 0, .bool false] 47 (0, 0)) := by rw [hW1]; exact (Below.heap_setCell _ _ _ _ (by simp; try omega)).trans ((HX1.out W0 (Below.refl _ _)))
  have hsz : W1.heap.size = W0.heap.size := by rw [hW1]; simp
  have hS : W1.heap[w.heap.size]? = some (.cells #[.int .i64 i, .int .i64 a, .int .i64 y, .int .i64 d, .int .i64 q, .int .i64 p, .int .i64 f, .int .i64 3, .int .i64 m, .int .i64 r, .int .i64 v, .bool g] 47 (0, 0)) := hS1
  clear hW1 hS0 hS1
  clear z7 k_0 k_1 k_2 k_3 k_4 k_5 k_6 k_7 k_8 k_9 k_10 k_11
  obtain ⟨c0, c1, c2, c3, c4, c5, c6, c7, c8, c9, c10, c11⟩ := cells12 hS
  go_wp2_with fail
  refine Calls.mono (settled_is i a y d q p f 3 m r v g _) ?_
  rintro e2 W2 ⟨rfl, hb⟩
  clear c0 c1 c2 c3 c4 c5 c6 c7 c8 c9 c10 c11
  have hlt : w.heap.size + 1 < W1.heap.size := (Array.getElem?_eq_some_iff.1 hRz).1
  have hwh : World.whole W2 (w.heap.size + 1) 12 47 := whole_of ((hb.block _ hlt).trans hRz) rfl
  have HB2 : Hid (Below w.heap.size w W2) := Lib.hid (HBS.out.trans (hb.mono HBS.out.size))
  clear hb hsz hS hRz
  go_wp2_with (refine wpList_store_whole 47 (.tmp 2) (.tmp 5) (w.heap.size + 1) 12 _ 47 (by rfl) (by rfl) hwh (by rfl) (by kernel_rfl) (by kernel_rfl) ?_)
  obtain ⟨v0, v1, v2, v3, v4, v5, v6, v7, v8, v9, v10, v11⟩ := cells12 (setAll_self (vs := #[.int .i64 i, .int .i64 a, .int .i64 y, .int .i64 d, .int .i64 q, .int .i64 p, .int .i64 f, .int .i64 3, .int .i64 0, .int .i64 0, .int .i64 v, .bool g]) hwh rfl)
  exact bodyPost_ret (v := .agg #[.int .i64 i, .int .i64 a, .int .i64 y, .int .i64 d, .int .i64 q, .int .i64 p, .int .i64 f, .int .i64 3, .int .i64 0, .int .i64 0, .int .i64 v, .bool g]) (by simp [results, Try.results91, go_sem, v0, v1, v2, v3, v4, v5, v6, v7, v8, v9, v10, v11]) rfl ⟨rfl, setAll_below HB2.out (by omega)⟩

theorem can_any (i a y d q p f ph m r v : Int) (g : Bool) (zN tN oN qN pN : Int) (hi : -9223372036854775808 ≤ q - f ∧ q - f ≤ 9223372036854775807) (w : World) : Calls Try.prog 86 #[.agg #[.int .i64 i, .int .i64 a, .int .i64 y, .int .i64 d, .int .i64 q, .int .i64 p, .int .i64 f, .int .i64 ph, .int .i64 m, .int .i64 r, .int .i64 v, .bool g], .agg #[.int .i64 zN, .int .i64 tN, .int .i64 oN, .int .i64 qN, .int .i64 pN]] w fun e w' => e = .returned (.bool (can ⟨i, a, y, d, q, p, f, ph, m, r, v, g⟩ ⟨zN, tN, oN, qN, pN⟩)) ∧ Below w.heap.size w w' := by
  obtain ⟨W0, HW0⟩ : ∃ W, Hid (((w.alloc (.cells #[.int .i64 i, .int .i64 a, .int .i64 y, .int .i64 d, .int .i64 q, .int .i64 p, .int .i64 f, .int .i64 ph, .int .i64 m, .int .i64 r, .int .i64 v, .bool g] 47)).alloc (.cells #[.int .i64 zN, .int .i64 tN, .int .i64 oN, .int .i64 qN, .int .i64 pN] 104)) = W) := ⟨_, Lib.hid rfl⟩
  have HBW : Hid (Below w.heap.size w W0) := Lib.hid (by rw [← HW0.out]; exact ((Below.refl _ _).alloc (by simp) _).alloc (by simp; try omega) _)
  have HX0 : Hid (∀ W, Below W0.heap.size W0 W → W.heap[w.heap.size]? = some (.cells #[.int .i64 i, .int .i64 a, .int .i64 y, .int .i64 d, .int .i64 q, .int .i64 p, .int .i64 f, .int .i64 ph, .int .i64 m, .int .i64 r, .int .i64 v, .bool g] 47 (0, 0))) := Lib.hid (fun W hb => (hb.block _ (by rw [← HW0.out]; simp; try omega)).trans (by rw [← HW0.out]; refine (Below.heap_alloc _ _ _ (by simp; try omega)).trans ?_; have := heap_alloc_new w (.cells #[.int .i64 i, .int .i64 a, .int .i64 y, .int .i64 d, .int .i64 q, .int .i64 p, .int .i64 f, .int .i64 ph, .int .i64 m, .int .i64 r, .int .i64 v, .bool g] 47); exact this))
  have HX1 : Hid (∀ W, Below W0.heap.size W0 W → W.heap[w.heap.size + 1]? = some (.cells #[.int .i64 zN, .int .i64 tN, .int .i64 oN, .int .i64 qN, .int .i64 pN] 104 (0, 0))) := Lib.hid (fun W hb => (hb.block _ (by rw [← HW0.out]; simp; try omega)).trans (by rw [← HW0.out]; have := heap_alloc_new (w.alloc (.cells #[.int .i64 i, .int .i64 a, .int .i64 y, .int .i64 d, .int .i64 q, .int .i64 p, .int .i64 f, .int .i64 ph, .int .i64 m, .int .i64 r, .int .i64 v, .bool g] 47)) (.cells #[.int .i64 zN, .int .i64 tN, .int .i64 oN, .int .i64 qN, .int .i64 pN] 104); simp only [World.size_alloc] at this; exact this))
  obtain ⟨u, HU⟩ : ∃ u, Hid (can ⟨i, a, y, d, q, p, f, ph, m, r, v, g⟩ ⟨zN, tN, oN, qN, pN⟩ = u) := ⟨_, Lib.hid rfl⟩
  rw [HU.out]
  obtain ⟨g0, HG⟩ : ∃ x, Hid (pend m = x) := ⟨_, Lib.hid rfl⟩
  have hw : IntKind.i64.wrap (q - f) = q - f := IntWalk.i64_in _ hi
  clear hi
  go_enter Try.func86, Try.ntmps86
  go_upto_region 1 with fail
  rw [HW0.out]
  obtain ⟨k_0, k_1, k_2, k_3, k_4, k_5, k_6, k_7, k_8, k_9, k_10, k_11⟩ := cells12 (HX0.out W0 (Below.refl _ _))
  obtain ⟨n_0, n_1, n_2, n_3, n_4⟩ := cells5 (HX1.out W0 (Below.refl _ _))
  rcases eq_cases tN 1 with ⟨HE2, he2, hf2⟩ | ⟨HE2, he2, hf2⟩
  · obtain rfl : tN = 1 := HE2.out
    rcases eq_cases ph 1 with ⟨HE1, he1, hf1⟩ | ⟨HE1, he1, hf1⟩
    · obtain rfl : ph = 1 := HE1.out
      have hu : u = true := by
        rw [← HU.out]
        simp [can]
      subst hu
      clear HU 
      go_wp2_with fail
      go_ret
      exact ⟨retB (by first | rfl | (simp; omega)), HBW.out.trans ((Below.refl _ _).mono HBW.out.size)⟩
    · have x0 := HE1.out
      have hu : u = false := by
        rw [← HU.out]
        simp [can, x0]
      subst hu
      clear HU x0
      go_wp2_with fail
      go_ret
      exact ⟨retB (by first | rfl | (simp; omega)), HBW.out.trans ((Below.refl _ _).mono HBW.out.size)⟩
  · rcases eq_cases tN 2 with ⟨HE4, he4, hf4⟩ | ⟨HE4, he4, hf4⟩
    · obtain rfl : tN = 2 := HE4.out
      rcases eq_cases ph 1 with ⟨HE3, he3, hf3⟩ | ⟨HE3, he3, hf3⟩
      · obtain rfl : ph = 1 := HE3.out
        have hu : u = true := by
          rw [← HU.out]
          simp [can]
        subst hu
        clear HU 
        go_wp2_with fail
        go_ret
        exact ⟨retB (by first | rfl | (simp; omega)), HBW.out.trans ((Below.refl _ _).mono HBW.out.size)⟩
      · have x0 := HE3.out
        have hu : u = false := by
          rw [← HU.out]
          simp [can, x0]
        subst hu
        clear HU x0
        go_wp2_with fail
        go_ret
        exact ⟨retB (by first | rfl | (simp; omega)), HBW.out.trans ((Below.refl _ _).mono HBW.out.size)⟩
    · rcases eq_cases tN 3 with ⟨HE7, he7, hf7⟩ | ⟨HE7, he7, hf7⟩
      · obtain rfl : tN = 3 := HE7.out
        rcases eq_cases ph 2 with ⟨HE5, he5, hf5⟩ | ⟨HE5, he5, hf5⟩
        · obtain rfl : ph = 2 := HE5.out
          by_cases hl6 : qN ≤ q - f
          · have x0 := hl6
            have hu : u = true := by
              rw [← HU.out]
              simp [can, x0]
            subst hu
            clear HU x0
            go_wp2_with fail
            go_ret
            exact ⟨retB (by first | rfl | (simp; omega)), HBW.out.trans ((Below.refl _ _).mono HBW.out.size)⟩
          · have hn6 : q - f < qN := by omega
            have x0 := hl6
            have hu : u = false := by
              rw [← HU.out]
              simp [can, x0]
            subst hu
            clear HU x0
            go_wp2_with fail
            go_ret
            exact ⟨retB (by first | rfl | (simp; omega)), HBW.out.trans ((Below.refl _ _).mono HBW.out.size)⟩
        · have x0 := HE5.out
          have hu : u = false := by
            rw [← HU.out]
            simp [can, x0]
          subst hu
          clear HU x0
          go_wp2_with fail
          go_ret
          exact ⟨retB (by first | rfl | (simp; omega)), HBW.out.trans ((Below.refl _ _).mono HBW.out.size)⟩
      · rcases eq_cases tN 4 with ⟨HE9, he9, hf9⟩ | ⟨HE9, he9, hf9⟩
        · obtain rfl : tN = 4 := HE9.out
          rcases eq_cases ph 2 with ⟨HE8, he8, hf8⟩ | ⟨HE8, he8, hf8⟩
          · obtain rfl : ph = 2 := HE8.out
            have hu : u = true := by
              rw [← HU.out]
              simp [can]
            subst hu
            clear HU 
            go_wp2_with fail
            go_ret
            exact ⟨retB (by first | rfl | (simp; omega)), HBW.out.trans ((Below.refl _ _).mono HBW.out.size)⟩
          · have x0 := HE8.out
            have hu : u = false := by
              rw [← HU.out]
              simp [can, x0]
            subst hu
            clear HU x0
            go_wp2_with fail
            go_ret
            exact ⟨retB (by first | rfl | (simp; omega)), HBW.out.trans ((Below.refl _ _).mono HBW.out.size)⟩
        · rcases eq_cases tN 5 with ⟨HE14, he14, hf14⟩ | ⟨HE14, he14, hf14⟩
          · obtain rfl : tN = 5 := HE14.out
            rcases eq_cases ph 2 with ⟨HE10, he10, hf10⟩ | ⟨HE10, he10, hf10⟩
            · obtain rfl : ph = 2 := HE10.out
              go_wp2_with fail
              refine Calls.mono (pend_is _ _ _ _ _ _ _ _ _ _ _ _ HG.out _) ?_
              rintro e1 W1 ⟨rfl, hb⟩
              have HB0_1 : Hid (Below W0.heap.size W0 W1) := Lib.hid (hb)
              clear hb
              clear k_0 k_1 k_2 k_3 k_4 k_5 k_6 k_7 k_8 k_9 k_10 k_11 n_0 n_1 n_2 n_3 n_4
              obtain ⟨k_0, k_1, k_2, k_3, k_4, k_5, k_6, k_7, k_8, k_9, k_10, k_11⟩ := cells12 (HX0.out W1 HB0_1.out)
              obtain ⟨n_0, n_1, n_2, n_3, n_4⟩ := cells5 (HX1.out W1 HB0_1.out)
              have hg := HG.out
              simp only [pend] at hg
              rcases g0 with _ | _
              · simp at hg
                have x0 := hg
                have hu : u = false := by
                  rw [← HU.out]
                  simp [can, x0]
                subst hu
                clear HU x0
                go_wp2_with fail
                go_ret
                exact ⟨retB (by first | rfl | (simp; omega)), HBW.out.trans (HB0_1.out.mono HBW.out.size)⟩
              · simp at hg
                rcases eq_cases qN m with ⟨HE11, he11, hf11⟩ | ⟨HE11, he11, hf11⟩
                · rcases eq_cases pN r with ⟨HE12, he12, hf12⟩ | ⟨HE12, he12, hf12⟩
                  · by_cases hl13 : f < qN
                    · have x0 := hg
                      have x1 := HE11.out
                      have x2 := HE12.out
                      have x3 := hl13
                      have x4 := (show f < m by have := HE11.out; omega)
                      have hu : u = true := by
                        rw [← HU.out]
                        simp [can, x0, x1, x2, x3, x4]
                      subst hu
                      clear HU x0 x1 x2 x3 x4
                      go_wp2_with fail
                      go_ret
                      exact ⟨retB (by first | rfl | (simp; omega)), HBW.out.trans (HB0_1.out.mono HBW.out.size)⟩
                    · have hn13 : qN ≤ f := by omega
                      have x0 := hg
                      have x1 := HE11.out
                      have x2 := HE12.out
                      have x3 := hl13
                      have x4 := (show ¬ f < m by have := HE11.out; omega)
                      have hu : u = false := by
                        rw [← HU.out]
                        simp [can, x0, x1, x2, x3, x4]
                      subst hu
                      clear HU x0 x1 x2 x3 x4
                      go_wp2_with fail
                      go_ret
                      exact ⟨retB (by first | rfl | (simp; omega)), HBW.out.trans (HB0_1.out.mono HBW.out.size)⟩
                  · have x0 := hg
                    have x1 := HE11.out
                    have x2 := HE12.out
                    have hu : u = false := by
                      rw [← HU.out]
                      simp [can, x0, x1, x2]
                    subst hu
                    clear HU x0 x1 x2
                    go_wp2_with fail
                    go_ret
                    exact ⟨retB (by first | rfl | (simp; omega)), HBW.out.trans (HB0_1.out.mono HBW.out.size)⟩
                · have x0 := hg
                  have x1 := HE11.out
                  have hu : u = false := by
                    rw [← HU.out]
                    simp [can, x0, x1]
                  subst hu
                  clear HU x0 x1
                  go_wp2_with fail
                  go_ret
                  exact ⟨retB (by first | rfl | (simp; omega)), HBW.out.trans (HB0_1.out.mono HBW.out.size)⟩
            · have x0 := HE10.out
              have hu : u = false := by
                rw [← HU.out]
                simp [can, x0]
              subst hu
              clear HU x0
              go_wp2_with fail
              go_ret
              exact ⟨retB (by first | rfl | (simp; omega)), HBW.out.trans ((Below.refl _ _).mono HBW.out.size)⟩
          · rcases eq_cases tN 6 with ⟨HE16, he16, hf16⟩ | ⟨HE16, he16, hf16⟩
            · obtain rfl : tN = 6 := HE16.out
              rcases eq_cases ph 2 with ⟨HE15, he15, hf15⟩ | ⟨HE15, he15, hf15⟩
              · obtain rfl : ph = 2 := HE15.out
                go_wp2_with fail
                refine Calls.mono (pend_is _ _ _ _ _ _ _ _ _ _ _ _ HG.out _) ?_
                rintro e1 W1 ⟨rfl, hb⟩
                have HB0_1 : Hid (Below W0.heap.size W0 W1) := Lib.hid (hb)
                clear hb
                clear k_0 k_1 k_2 k_3 k_4 k_5 k_6 k_7 k_8 k_9 k_10 k_11 n_0 n_1 n_2 n_3 n_4
                obtain ⟨k_0, k_1, k_2, k_3, k_4, k_5, k_6, k_7, k_8, k_9, k_10, k_11⟩ := cells12 (HX0.out W1 HB0_1.out)
                obtain ⟨n_0, n_1, n_2, n_3, n_4⟩ := cells5 (HX1.out W1 HB0_1.out)
                have hg := HG.out
                simp only [pend] at hg
                rcases g0 with _ | _
                · simp at hg
                  have x0 := hg
                  have hu : u = false := by
                    rw [← HU.out]
                    simp [can, x0]
                  subst hu
                  clear HU x0
                  go_wp2_with fail
                  go_ret
                  exact ⟨retB (by first | rfl | (simp; omega)), HBW.out.trans (HB0_1.out.mono HBW.out.size)⟩
                · simp at hg
                  have x0 := hg
                  have hu : u = true := by
                    rw [← HU.out]
                    simp [can, x0]
                  subst hu
                  clear HU x0
                  go_wp2_with fail
                  go_ret
                  exact ⟨retB (by first | rfl | (simp; omega)), HBW.out.trans (HB0_1.out.mono HBW.out.size)⟩
              · have x0 := HE15.out
                have hu : u = false := by
                  rw [← HU.out]
                  simp [can, x0]
                subst hu
                clear HU x0
                go_wp2_with fail
                go_ret
                exact ⟨retB (by first | rfl | (simp; omega)), HBW.out.trans ((Below.refl _ _).mono HBW.out.size)⟩
            · have x0 := HE2.out
              have x1 := HE4.out
              have x2 := HE7.out
              have x3 := HE9.out
              have x4 := HE14.out
              have x5 := HE16.out
              have hu : u = false := by
                rw [← HU.out]
                simp [can, x0, x1, x2, x3, x4, x5]
              subst hu
              clear HU x0 x1 x2 x3 x4 x5
              go_wp2_with fail
              go_ret
              exact ⟨retB (by first | rfl | (simp; omega)), HBW.out.trans ((Below.refl _ _).mono HBW.out.size)⟩
theorem can_is (i a y d q p f ph m r v : Int) (g : Bool) (zN tN oN qN pN : Int) {b : Bool} (hi : -9223372036854775808 ≤ q - f ∧ q - f ≤ 9223372036854775807) (h : can ⟨i, a, y, d, q, p, f, ph, m, r, v, g⟩ ⟨zN, tN, oN, qN, pN⟩ = b) (w : World) : Calls Try.prog 86 #[.agg #[.int .i64 i, .int .i64 a, .int .i64 y, .int .i64 d, .int .i64 q, .int .i64 p, .int .i64 f, .int .i64 ph, .int .i64 m, .int .i64 r, .int .i64 v, .bool g], .agg #[.int .i64 zN, .int .i64 tN, .int .i64 oN, .int .i64 qN, .int .i64 pN]] w fun e w' => e = .returned (.bool b) ∧ Below w.heap.size w w' := by
  have key := can_any i a y d q p f ph m r v g zN tN oN qN pN hi w
  rw [h] at key
  exact key


end Go.Proofs.Ytiljgndgffoloab.order
