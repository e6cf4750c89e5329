/-
  RecImpl5, OrdImplB
-/
import Derived.Test.YtiljgndgffoloabMA25
import Derived.Test.YtiljgndgffoloabMA26
import Derived.Test.YtiljgndgffoloabMA20
import Derived.Deep.DeepCutAuto
import Derived.Deep.DrawnRows
import Derived.Deep.RegionHeld
import Derived.Test.YtiljgndgffoloabMA22
section
namespace Go.Proofs.Ytiljgndgffoloab.rec
open Go.RowKit Go.Proofs.Ytiljgndgffoloab
set_option linter.unusedVariables false
set_option linter.unusedSimpArgs false
attribute [local go_sem] undef
attribute [local go_sem ↓] Go.wp_at_zero Go.wp_at_succ

theorem right_is (k o a y d q p l s n : Int) (on : Bool) (z t : Int) {b : Bool} (hf : (⟨k, o, a, y, d, q, p, l, s, n, on, z, t⟩ : Rc).fine) (h : right ⟨k, o, a, y, d, q, p, l, s, n, on, z, t⟩ = b) (w : World) : Calls Try.prog 40 #[.agg #[.int .i64 k, .int .i64 o, .int .i64 a, .int .i64 y, .int .i64 d, .int .i64 q, .int .i64 p, .int .i64 l, .int .i64 s, .int .i64 n, .bool on, .int .i64 z, .int .i64 t]] w fun e w' => e = .returned (.bool b) ∧ Below w.heap.size w w' := by
  obtain ⟨W0, HW0⟩ : ∃ W, Hid ((w.alloc (.cells #[.int .i64 k, .int .i64 o, .int .i64 a, .int .i64 y, .int .i64 d, .int .i64 q, .int .i64 p, .int .i64 l, .int .i64 s, .int .i64 n, .bool on, .int .i64 z, .int .i64 t] 37)) = W) := ⟨_, Lib.hid rfl⟩
  have HBW : Hid (Below w.heap.size w W0) := Lib.hid (by rw [← HW0.out]; exact (Below.refl _ _).alloc (by simp) _)
  have HX0 : Hid (∀ W, Below W0.heap.size W0 W → W.heap[w.heap.size]? = some (.cells #[.int .i64 k, .int .i64 o, .int .i64 a, .int .i64 y, .int .i64 d, .int .i64 q, .int .i64 p, .int .i64 l, .int .i64 s, .int .i64 n, .bool on, .int .i64 z, .int .i64 t] 37 (0, 0))) := Lib.hid (fun W hb => (hb.block _ (by rw [← HW0.out]; simp; try omega)).trans (by rw [← HW0.out]; have := heap_alloc_new w (.cells #[.int .i64 k, .int .i64 o, .int .i64 a, .int .i64 y, .int .i64 d, .int .i64 q, .int .i64 p, .int .i64 l, .int .i64 s, .int .i64 n, .bool on, .int .i64 z, .int .i64 t] 37); exact this))
  obtain ⟨m, HM⟩ : ∃ x, Hid (may ⟨k, o, a, y, d, q, p, l, s, n, on, z, t⟩ = x) := ⟨_, Lib.hid rfl⟩
  obtain ⟨xs, hx⟩ : ∃ x, nums ⟨k, o, a, y, d, q, p, l, s, n, on, z, t⟩ = x := ⟨_, rfl⟩
  obtain ⟨x0, x1, x2, x3, x4, x5⟩ := xs
  obtain ⟨r1, hr⟩ : ∃ x, rd k ⟨x0, x1, x2, x3, x4, x5⟩ = x := ⟨_, rfl⟩
  obtain ⟨k1, o1, a1, y1, d1, q1, p1, l1, s1, n1, on1, z1, t1⟩ := r1
  obtain ⟨f0, HF0⟩ : ∃ f, Hid ((⟨k, o, a, y, d, q, p, l, s, n, on, z, t⟩ : Rc) = f) := ⟨_, Lib.hid rfl⟩
  obtain ⟨f1, HF1⟩ : ∃ f, Hid ((⟨k1, o1, a1, y1, d1, q1, p1, l1, s1, n1, on1, z1, t1⟩ : Rc) = f) := ⟨_, Lib.hid rfl⟩
  have G0 : Hid f0.fine := Lib.hid (by rw [← HF0.out]; exact hf)
  have G1 : Hid f1.fine := Lib.hid (by rw [← HF1.out, ← hr, ← hx]; exact rd_fine hf.1 (nums_fine hf))
  obtain ⟨qq, HQ⟩ : ∃ x, Hid (decide (f1 = f0) = x) := ⟨_, Lib.hid rfl⟩
  have HP : Hid ((m && qq) = b) := Lib.hid (by
    rw [← h, ← HM.out, ← HQ.out, ← HF1.out, ← HF0.out, ← hr, ← hx]; rfl)
  have heq : ∀ W, (Op.equalIn 10000 37 (.agg #[.int .i64 k1, .int .i64 o1, .int .i64 a1, .int .i64 y1, .int .i64 d1, .int .i64 q1, .int .i64 p1, .int .i64 l1, .int .i64 s1, .int .i64 n1, .bool on1, .int .i64 z1, .int .i64 t1]) (.agg #[.int .i64 k, .int .i64 o, .int .i64 a, .int .i64 y, .int .i64 d, .int .i64 q, .int .i64 p, .int .i64 l, .int .i64 s, .int .i64 n, .bool on, .int .i64 z, .int .i64 t])).run Try.prog W = .ok qq W := fun W => eq13_of HF1.out HF0.out G1.out G0.out HQ.out W
  have HN := Lib.hid hx
  have HR := Lib.hid hr
  clear h hx hr hf
  go_enter Try.func40, Try.ntmps40
  go_upto_region 1 with fail
  rw [HW0.out]
  refine wp_region_held_drew (S := fun W => Below W0.heap.size W0 W) (by kernel_rfl) (Below.refl _ _).drew (fun _ => ?_)
  obtain ⟨W1, hW1⟩ : ∃ x, x = W0.drew := ⟨_, rfl⟩
  rw [← hW1]
  have HB1 : Hid (Below W0.heap.size W0 W1) := Lib.hid (by rw [hW1]; exact (Below.refl _ _).drew)
  clear hW1
  refine wpAnyH_take (i := 0) (v := .agg #[.int .i64 k, .int .i64 o, .int .i64 a, .int .i64 y, .int .i64 d, .int .i64 q, .int .i64 p, .int .i64 l, .int .i64 s, .int .i64 n, .bool on, .int .i64 z, .int .i64 t]) rfl (by kernel_rfl) (by kernel_rfl) (by kernel_rfl) (fun _ _ _ h => h) (Or.inl ⟨by kernel_rfl, ?h0⟩) HB1.out ?_
  case h0 => (intro W9 hW9; obtain ⟨c0, c1, c2, c3, c4, c5, c6, c7, c8, c9, c10, c11, c12⟩ := cells13 (HX0.out W9 (show Below W0.heap.size W0 W9 from hW9)); go_simp)
  go_simp
  refine wpAnyH_ready (rs := [1]) (by kernel_rfl) (by simp) ?_
  refine AllReadyH.cons rfl (fun K hK => ?_) AllReadyH.nil
  go_simp
  go_wp2_with (refine Calls.mono (may_is k o a y d q p l s n on z t HM.out _) ?_; rintro e1 W2 ⟨rfl, hb⟩)
  have HB2 : Hid (Below W0.heap.size W0 W2) := Lib.hid (HB1.out.trans (hb.mono HB1.out.size))
  clear hb
  refine hK.out _ _ HB2.out (fun _ => ?_)
  clear hK K
  go_simp
  rcases m with _ | _
  · have hv : b = false := by rw [← HP.out]; rfl
    subst hv
    refine wpAnyH_take (i := 2) (v := .bool false) rfl (by kernel_rfl) (by kernel_rfl) (by kernel_rfl) (fun _ _ _ h => h) (Or.inl ⟨by kernel_rfl, ?h2⟩) HB2.out ?_
    case h2 => (intro W9 hW9; go_simp)
    go_simp
    refine wpAnyH_take (i := 3) (v := undef) rfl (by kernel_rfl) (by kernel_rfl) (by kernel_rfl) (fun _ _ _ h => h) (Or.inr ⟨by kernel_rfl, rfl⟩) HB2.out ?_
    go_simp
    refine wpAnyH_take (i := 4) (v := undef) rfl (by kernel_rfl) (by kernel_rfl) (by kernel_rfl) (fun _ _ _ h => h) (Or.inr ⟨by kernel_rfl, rfl⟩) HB2.out ?_
    go_simp
    refine wpAnyH_take (i := 5) (v := undef) rfl (by kernel_rfl) (by kernel_rfl) (by kernel_rfl) (fun _ _ _ h => h) (Or.inr ⟨by kernel_rfl, rfl⟩) HB2.out ?_
    go_simp
    refine wpAnyH_take (i := 6) (v := undef) rfl (by kernel_rfl) (by kernel_rfl) (by kernel_rfl) (fun _ _ _ h => h) (Or.inr ⟨by kernel_rfl, rfl⟩) HB2.out ?_
    go_simp
    refine wpAnyH_take (i := 7) (v := undef) rfl (by kernel_rfl) (by kernel_rfl) (by kernel_rfl) (fun _ _ _ h => h) (Or.inr ⟨by kernel_rfl, rfl⟩) HB2.out ?_
    go_simp
    refine wpAnyH_take (i := 8) (v := undef) rfl (by kernel_rfl) (by kernel_rfl) (by kernel_rfl) (fun _ _ _ h => h) (Or.inr ⟨by kernel_rfl, rfl⟩) HB2.out ?_
    go_simp
    refine wpAnyH_take (i := 9) (v := undef) rfl (by kernel_rfl) (by kernel_rfl) (by kernel_rfl) (fun _ _ _ h => h) (Or.inr ⟨by kernel_rfl, rfl⟩) HB2.out ?_
    go_simp
    refine wpAnyH_take (i := 10) (v := .bool false) rfl (by kernel_rfl) (by kernel_rfl) (by kernel_rfl) (fun _ _ _ h => h) (Or.inl ⟨by kernel_rfl, ?h10⟩) HB2.out ?_
    case h10 => (intro W9 hW9; go_simp)
    go_simp
    refine wpAnyH_take (i := 11) (v := .bool false) rfl (by kernel_rfl) (by kernel_rfl) (by kernel_rfl) (fun _ _ _ h => h) (Or.inl ⟨by kernel_rfl, ?h11⟩) HB2.out ?_
    case h11 => (intro W9 hW9; go_simp)
    go_simp
    refine wpAnyH_done (by kernel_rfl) ?_ _
    go_wp2_with fail
    go_ret
    exact ⟨rfl, HBW.out.trans (HB2.out.mono HBW.out.size)⟩
  · have hv : b = qq := by rw [← HP.out]; rfl
    subst hv
    refine wpAnyH_take (i := 2) (v := .bool true) rfl (by kernel_rfl) (by kernel_rfl) (by kernel_rfl) (fun _ _ _ h => h) (Or.inl ⟨by kernel_rfl, ?h2⟩) HB2.out ?_
    case h2 => (intro W9 hW9; go_simp)
    go_simp
    refine wpAnyH_take (i := 3) (v := .pointer (some ⟨w.heap.size, 0, none⟩)) rfl (by kernel_rfl) (by kernel_rfl) (by kernel_rfl) (fun _ _ _ h => h) (Or.inl ⟨by kernel_rfl, ?h3⟩) HB2.out ?_
    case h3 => (intro W9 hW9; go_simp)
    go_simp
    refine wpAnyH_take (i := 4) (v := .int .i64 k) rfl (by kernel_rfl) (by kernel_rfl) (by kernel_rfl) (fun _ _ _ h => h) (Or.inl ⟨by kernel_rfl, ?h4⟩) HB2.out ?_
    case h4 => (intro W9 hW9; obtain ⟨c0, c1, c2, c3, c4, c5, c6, c7, c8, c9, c10, c11, c12⟩ := cells13 (HX0.out W9 (show Below W0.heap.size W0 W9 from hW9)); go_simp)
    go_simp
    refine wpAnyH_take (i := 5) (v := .agg #[.int .i64 k, .int .i64 o, .int .i64 a, .int .i64 y, .int .i64 d, .int .i64 q, .int .i64 p, .int .i64 l, .int .i64 s, .int .i64 n, .bool on, .int .i64 z, .int .i64 t]) rfl (by kernel_rfl) (by kernel_rfl) (by kernel_rfl) (fun _ _ _ h => h) (Or.inl ⟨by kernel_rfl, ?h5⟩) HB2.out ?_
    case h5 => (intro W9 hW9; obtain ⟨c0, c1, c2, c3, c4, c5, c6, c7, c8, c9, c10, c11, c12⟩ := cells13 (HX0.out W9 (show Below W0.heap.size W0 W9 from hW9)); go_simp)
    go_simp
    refine wpAnyH_take (i := 8) (v := .agg #[.int .i64 k, .int .i64 o, .int .i64 a, .int .i64 y, .int .i64 d, .int .i64 q, .int .i64 p, .int .i64 l, .int .i64 s, .int .i64 n, .bool on, .int .i64 z, .int .i64 t]) rfl (by kernel_rfl) (by kernel_rfl) (by kernel_rfl) (fun _ _ _ h => h) (Or.inl ⟨by kernel_rfl, ?h8⟩) HB2.out ?_
    case h8 => (intro W9 hW9; obtain ⟨c0, c1, c2, c3, c4, c5, c6, c7, c8, c9, c10, c11, c12⟩ := cells13 (HX0.out W9 (show Below W0.heap.size W0 W9 from hW9)); go_simp)
    go_simp
    refine wpAnyH_ready (rs := [6]) (by kernel_rfl) (by simp) ?_
    refine AllReadyH.cons rfl (fun K hK => ?_) AllReadyH.nil
    go_simp
    go_wp2_with (refine Calls.mono (nums_is k o a y d q p l s n on z t HN.out _) ?_; rintro e2 W3 ⟨rfl, hb⟩)
    have HB3 : Hid (Below W0.heap.size W0 W3) := Lib.hid (HB2.out.trans (hb.mono HB2.out.size))
    clear hb
    refine hK.out _ _ HB3.out (fun _ => ?_)
    clear hK K
    go_simp
    refine wpAnyH_ready (rs := [7]) (by kernel_rfl) (by simp) ?_
    refine AllReadyH.cons rfl (fun K hK => ?_) AllReadyH.nil
    go_simp
    go_wp2_with (refine Calls.mono (read_is k x0 x1 x2 x3 x4 x5 HR.out _) ?_; rintro e3 W4 ⟨rfl, hb⟩)
    have HB4 : Hid (Below W0.heap.size W0 W4) := Lib.hid (HB3.out.trans (hb.mono HB3.out.size))
    clear hb
    refine hK.out _ _ HB4.out (fun _ => ?_)
    clear hK K
    go_simp
    refine wpAnyH_take (i := 9) (v := .bool b) rfl (by kernel_rfl) (by kernel_rfl) (by kernel_rfl) (fun _ _ _ h => h) (Or.inl ⟨by kernel_rfl, ?h9⟩) HB4.out ?_
    case h9 => (intro W9 hW9; go_simp)
    go_simp
    refine wpAnyH_take (i := 10) (v := .bool b) rfl (by kernel_rfl) (by kernel_rfl) (by kernel_rfl) (fun _ _ _ h => h) (Or.inl ⟨by kernel_rfl, ?h10⟩) HB4.out ?_
    case h10 => (intro W9 hW9; go_simp)
    go_simp
    refine wpAnyH_take (i := 11) (v := .bool b) rfl (by kernel_rfl) (by kernel_rfl) (by kernel_rfl) (fun _ _ _ h => h) (Or.inl ⟨by kernel_rfl, ?h11⟩) HB4.out ?_
    case h11 => (intro W9 hW9; go_simp)
    go_simp
    refine wpAnyH_done (by kernel_rfl) ?_ _
    go_wp2_with fail
    go_ret
    exact ⟨rfl, HBW.out.trans (HB4.out.mono HBW.out.size)⟩

end Go.Proofs.Ytiljgndgffoloab.rec
end
section
namespace Go.Proofs.Ytiljgndgffoloab.order
open Go.RowKit Go.Proofs.Ytiljgndgffoloab
open Go.Proofs.Ytiljgndgffoloab.rec (cells13)
set_option linter.unusedVariables false
set_option linter.unusedSimpArgs false
set_option maxRecDepth 20000
set_option maxHeartbeats 8000000

theorem begin_any (k o a y d q p l s n : Int) (on : Bool) (z t : Int) (hf : (⟨k, o, a, y, d, q, p, l, s, n, on, z, t⟩ : rec.Rc).fine) (w : World) : Calls Try.prog 61 #[.agg #[.int .i64 k, .int .i64 o, .int .i64 a, .int .i64 y, .int .i64 d, .int .i64 q, .int .i64 p, .int .i64 l, .int .i64 s, .int .i64 n, .bool on, .int .i64 z, .int .i64 t]] w fun e w' => e = .returned (.tuple #[.agg (oc (begin_ ⟨k, o, a, y, d, q, p, l, s, n, on, z, t⟩).1), .int .i64 (begin_ ⟨k, o, a, y, d, q, p, l, s, n, on, z, t⟩).2]) ∧ Below w.heap.size w w' := by
  obtain ⟨W0, HW0⟩ : ∃ W, Hid (((w.alloc (.cells #[.int .i64 k, .int .i64 o, .int .i64 a, .int .i64 y, .int .i64 d, .int .i64 q, .int .i64 p, .int .i64 l, .int .i64 s, .int .i64 n, .bool on, .int .i64 z, .int .i64 t] 37)).alloc (.cells #[.int .i64 0, .int .i64 0, .int .i64 0, .int .i64 0, .int .i64 0, .int .i64 0, .int .i64 0, .int .i64 0, .int .i64 0, .int .i64 0, .int .i64 0, .bool false] 47)) = W) := ⟨_, Lib.hid rfl⟩
  have HBW : Hid (Below w.heap.size w W0) := Lib.hid (by rw [← HW0.out]; exact ((Below.refl _ _).alloc (by simp) _).alloc (by simp; try omega) _)
  have HX0 : Hid (∀ W, Below W0.heap.size W0 W → W.heap[w.heap.size]? = some (.cells #[.int .i64 k, .int .i64 o, .int .i64 a, .int .i64 y, .int .i64 d, .int .i64 q, .int .i64 p, .int .i64 l, .int .i64 s, .int .i64 n, .bool on, .int .i64 z, .int .i64 t] 37 (0, 0))) := Lib.hid (fun W hb => (hb.block _ (by rw [← HW0.out]; simp; try omega)).trans (by rw [← HW0.out]; refine (Below.heap_alloc _ _ _ (by simp; try omega)).trans ?_; have := heap_alloc_new w (.cells #[.int .i64 k, .int .i64 o, .int .i64 a, .int .i64 y, .int .i64 d, .int .i64 q, .int .i64 p, .int .i64 l, .int .i64 s, .int .i64 n, .bool on, .int .i64 z, .int .i64 t] 37); exact this))
  have HX1 : Hid (∀ W, Below W0.heap.size W0 W → W.heap[w.heap.size + 1]? = some (.cells #[.int .i64 0, .int .i64 0, .int .i64 0, .int .i64 0, .int .i64 0, .int .i64 0, .int .i64 0, .int .i64 0, .int .i64 0, .int .i64 0, .int .i64 0, .bool false] 47 (0, 0))) := Lib.hid (fun W hb => (hb.block _ (by rw [← HW0.out]; simp; try omega)).trans (by rw [← HW0.out]; have := heap_alloc_new (w.alloc (.cells #[.int .i64 k, .int .i64 o, .int .i64 a, .int .i64 y, .int .i64 d, .int .i64 q, .int .i64 p, .int .i64 l, .int .i64 s, .int .i64 n, .bool on, .int .i64 z, .int .i64 t] 37)) (.cells #[.int .i64 0, .int .i64 0, .int .i64 0, .int .i64 0, .int .i64 0, .int .i64 0, .int .i64 0, .int .i64 0, .int .i64 0, .int .i64 0, .int .i64 0, .bool false] 47); simp only [World.size_alloc] at this; exact this))
  have HF := Lib.hid hf
  obtain ⟨m, HM⟩ : ∃ x, Hid (rec.right ⟨k, o, a, y, d, q, p, l, s, n, on, z, t⟩ = x) := ⟨_, Lib.hid rfl⟩
  obtain ⟨u, HU⟩ : ∃ u, Hid (begin_ ⟨k, o, a, y, d, q, p, l, s, n, on, z, t⟩ = u) := ⟨_, Lib.hid rfl⟩
  rw [HU.out]
  clear hf
  go_enter Try.func61, Try.ntmps61
  rcases eq_cases k 1 with ⟨HE1, he1, hf1⟩ | ⟨HE1, he1, hf1⟩
  · go_wp2_with fail
    refine Calls.mono (rec.right_is k o a y d q p l s n on z t HF.out HM.out _) ?_
    rintro e1 W1 ⟨rfl, hb⟩
    rw [HW0.out] at hb
    have HB0_1 : Hid (Below W0.heap.size W0 W1) := Lib.hid (hb)
    clear hb
    rcases m with _ | _
    · have hu : u = (oz, 1) := by rw [← HU.out]; unfold begin_; rw [HM.out]; simp
      subst hu
      clear HU
      have hwh : World.whole W1 (w.heap.size + 1) 12 47 := whole_of (HX1.out W1 HB0_1.out) rfl
      go_wp2_with (refine wpList_store_whole 47 (.tmp 2) (.tmp 12) (w.heap.size + 1) 12 _ 47 (by rfl) (by rfl) hwh (by rfl) (by kernel_rfl) (by kernel_rfl) ?_)
      obtain ⟨v0, v1, v2, v3, v4, v5, v6, v7, v8, v9, v10, v11⟩ := cells12 (setAll_self (vs := #[.int .i64 0, .int .i64 0, .int .i64 0, .int .i64 0, .int .i64 0, .int .i64 0, .int .i64 0, .int .i64 0, .int .i64 0, .int .i64 0, .int .i64 0, .bool false]) hwh rfl)
      exact bodyPost_ret (v := .tuple #[.agg #[.int .i64 0, .int .i64 0, .int .i64 0, .int .i64 0, .int .i64 0, .int .i64 0, .int .i64 0, .int .i64 0, .int .i64 0, .int .i64 0, .int .i64 0, .bool false], .int .i64 1]) (by simp [results, Try.results61, go_sem, v0, v1, v2, v3, v4, v5, v6, v7, v8, v9, v10, v11]) rfl ⟨rfl, setAll_below (HBW.out.trans (HB0_1.out.mono HBW.out.size)) (by omega)⟩
    · have HEK := HE1.out
      have hu : u = (⟨o, a, y, d, q, p, 0, 1, 0, 0, 0, false⟩, 0) := by rw [← HU.out]; unfold begin_; rw [HM.out]; simp [HEK]
      subst hu
      clear HU
      obtain ⟨k_0, k_1, k_2, k_3, k_4, k_5, k_6, k_7, k_8, k_9, k_10, k_11, k_12⟩ := cells13 (HX0.out W1 HB0_1.out)
      have hwh : World.whole W1 (w.heap.size + 1) 12 47 := whole_of (HX1.out W1 HB0_1.out) rfl
      go_wp2_with (refine wpList_store_whole 47 (.tmp 2) (.tmp 25) (w.heap.size + 1) 12 _ 47 (by rfl) (by rfl) hwh (by rfl) (by kernel_rfl) (by kernel_rfl) ?_)
      obtain ⟨v0, v1, v2, v3, v4, v5, v6, v7, v8, v9, v10, v11⟩ := cells12 (setAll_self (vs := #[.int .i64 o, .int .i64 a, .int .i64 y, .int .i64 d, .int .i64 q, .int .i64 p, .int .i64 0, .int .i64 1, .int .i64 0, .int .i64 0, .int .i64 0, .bool false]) hwh rfl)
      exact bodyPost_ret (v := .tuple #[.agg #[.int .i64 o, .int .i64 a, .int .i64 y, .int .i64 d, .int .i64 q, .int .i64 p, .int .i64 0, .int .i64 1, .int .i64 0, .int .i64 0, .int .i64 0, .bool false], .int .i64 0]) (by simp [results, Try.results61, go_sem, v0, v1, v2, v3, v4, v5, v6, v7, v8, v9, v10, v11]) rfl ⟨rfl, setAll_below (HBW.out.trans (HB0_1.out.mono HBW.out.size)) (by omega)⟩
  · have hu : u = (oz, 1) := by rw [← HU.out]; unfold begin_; simp [HE1.out]
    subst hu
    clear HU
    go_wp2_with fail
    exact bodyPost_ret (v := .tuple #[.agg #[.int .i64 0, .int .i64 0, .int .i64 0, .int .i64 0, .int .i64 0, .int .i64 0, .int .i64 0, .int .i64 0, .int .i64 0, .int .i64 0, .int .i64 0, .bool false], .int .i64 1]) (by simp [results, Try.results61, go_sem]) rfl ⟨rfl, by rw [HW0.out]; exact HBW.out⟩
theorem begin_is (k o a y d q p l s n : Int) (on : Bool) (z t : Int) {i' a' y' d' q' p' f' ph' m' r' v' : Int} {g' : Bool} {e : Int} (hf : (⟨k, o, a, y, d, q, p, l, s, n, on, z, t⟩ : rec.Rc).fine) (h : begin_ ⟨k, o, a, y, d, q, p, l, s, n, on, z, t⟩ = (⟨i', a', y', d', q', p', f', ph', m', r', v', g'⟩, e)) (w : World) : Calls Try.prog 61 #[.agg #[.int .i64 k, .int .i64 o, .int .i64 a, .int .i64 y, .int .i64 d, .int .i64 q, .int .i64 p, .int .i64 l, .int .i64 s, .int .i64 n, .bool on, .int .i64 z, .int .i64 t]] w fun e' w' => e' = .returned (.tuple #[.agg #[.int .i64 i', .int .i64 a', .int .i64 y', .int .i64 d', .int .i64 q', .int .i64 p', .int .i64 f', .int .i64 ph', .int .i64 m', .int .i64 r', .int .i64 v', .bool g'], .int .i64 e]) ∧ Below w.heap.size w w' := by
  have key := begin_any k o a y d q p l s n on z t hf w
  rw [h] at key
  exact key

end Go.Proofs.Ytiljgndgffoloab.order
end
