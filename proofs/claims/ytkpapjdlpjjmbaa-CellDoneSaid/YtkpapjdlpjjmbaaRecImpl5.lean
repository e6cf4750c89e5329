/-
  The contract of package rec's Right.
-/
import Derived.Test.YtkpapjdlpjjmbaaRecImpl3
import Derived.Test.YtkpapjdlpjjmbaaRecImpl4
import Derived.Test.YtkpapjdlpjjmbaaRecEq
import Derived.Deep.DeepCutAuto
import Derived.Deep.DrawnRows
import Derived.Deep.RegionHeld
namespace Go.Proofs.Ytkpapjdlpjjmbaa.rec
open Go.RowKit Go.Proofs.Ytkpapjdlpjjmbaa
set_option linter.unusedVariables false
set_option linter.unusedSimpArgs false
attribute [local go_sem] undef
attribute [local go_sem ↓] Go.wp_at_zero Go.wp_at_succ

theorem right_is (k o a y d q p l s n : Int) (on : Bool) (z t : Int) {b : Bool} (hf : (⟨k, o, a, y, d, q, p, l, s, n, on, z, t⟩ : Rc).fine) (h : right ⟨k, o, a, y, d, q, p, l, s, n, on, z, t⟩ = b) (w : World) : Calls Try.prog 31 #[.agg #[.int .i64 k, .int .i64 o, .int .i64 a, .int .i64 y, .int .i64 d, .int .i64 q, .int .i64 p, .int .i64 l, .int .i64 s, .int .i64 n, .bool on, .int .i64 z, .int .i64 t]] w fun e w' => e = .returned (.bool b) ∧ Below w.heap.size w w' := by
  obtain ⟨W0, HW0⟩ : ∃ W, Hid ((w.alloc (.cells #[.int .i64 k, .int .i64 o, .int .i64 a, .int .i64 y, .int .i64 d, .int .i64 q, .int .i64 p, .int .i64 l, .int .i64 s, .int .i64 n, .bool on, .int .i64 z, .int .i64 t] 61)) = W) := ⟨_, Lib.hid rfl⟩
  have HBW : Hid (Below w.heap.size w W0) := Lib.hid (by rw [← HW0.out]; exact (Below.refl _ _).alloc (by simp) _)
  have HX0 : Hid (∀ W, Below W0.heap.size W0 W → W.heap[w.heap.size]? = some (.cells #[.int .i64 k, .int .i64 o, .int .i64 a, .int .i64 y, .int .i64 d, .int .i64 q, .int .i64 p, .int .i64 l, .int .i64 s, .int .i64 n, .bool on, .int .i64 z, .int .i64 t] 61 (0, 0))) := Lib.hid (fun W hb => (hb.block _ (by rw [← HW0.out]; simp; try omega)).trans (by rw [← HW0.out]; have := heap_alloc_new w (.cells #[.int .i64 k, .int .i64 o, .int .i64 a, .int .i64 y, .int .i64 d, .int .i64 q, .int .i64 p, .int .i64 l, .int .i64 s, .int .i64 n, .bool on, .int .i64 z, .int .i64 t] 61); exact this))
  obtain ⟨m, HM⟩ : ∃ x, Hid (may ⟨k, o, a, y, d, q, p, l, s, n, on, z, t⟩ = x) := ⟨_, Lib.hid rfl⟩
  obtain ⟨xs, hx⟩ : ∃ x, nums ⟨k, o, a, y, d, q, p, l, s, n, on, z, t⟩ = x := ⟨_, rfl⟩
  obtain ⟨x0, x1, x2, x3, x4, x5⟩ := xs
  obtain ⟨r1, hr⟩ : ∃ x, rd k ⟨x0, x1, x2, x3, x4, x5⟩ = x := ⟨_, rfl⟩
  obtain ⟨k1, o1, a1, y1, d1, q1, p1, l1, s1, n1, on1, z1, t1⟩ := r1
  obtain ⟨f0, HF0⟩ : ∃ f, Hid ((⟨k, o, a, y, d, q, p, l, s, n, on, z, t⟩ : Rc) = f) := ⟨_, Lib.hid rfl⟩
  obtain ⟨f1, HF1⟩ : ∃ f, Hid ((⟨k1, o1, a1, y1, d1, q1, p1, l1, s1, n1, on1, z1, t1⟩ : Rc) = f) := ⟨_, Lib.hid rfl⟩
  have G0 : Hid f0.fine := Lib.hid (by rw [← HF0.out]; exact hf)
  have G1 : Hid f1.fine := Lib.hid (by rw [← HF1.out, ← hr, ← hx]; exact rd_fine hf.1 (nums_fine hf))
  obtain ⟨qq, HQ⟩ : ∃ x, Hid (decide (f1 = f0) = x) := ⟨_, Lib.hid rfl⟩
  have HP : Hid ((m && qq) = b) := Lib.hid (by
    rw [← h, ← HM.out, ← HQ.out, ← HF1.out, ← HF0.out, ← hr, ← hx]; rfl)
  have heq : ∀ W, (Op.equalIn 10000 61 (.agg #[.int .i64 k1, .int .i64 o1, .int .i64 a1, .int .i64 y1, .int .i64 d1, .int .i64 q1, .int .i64 p1, .int .i64 l1, .int .i64 s1, .int .i64 n1, .bool on1, .int .i64 z1, .int .i64 t1]) (.agg #[.int .i64 k, .int .i64 o, .int .i64 a, .int .i64 y, .int .i64 d, .int .i64 q, .int .i64 p, .int .i64 l, .int .i64 s, .int .i64 n, .bool on, .int .i64 z, .int .i64 t])).run Try.prog W = .ok qq W := fun W => eq13_of HF1.out HF0.out G1.out G0.out HQ.out W
  have HN := Lib.hid hx
  have HR := Lib.hid hr
  clear h hx hr hf
  go_enter Try.func31, Try.ntmps31
  go_upto_region 1 with fail
  rw [HW0.out]
  refine wp_region_held_drew (S := fun W => Below W0.heap.size W0 W) (by kernel_rfl) (Below.refl _ _).drew (fun _ => ?_)
  obtain ⟨W1, hW1⟩ : ∃ x, x = W0.drew := ⟨_, rfl⟩
  rw [← hW1]
  have HB1 : Hid (Below W0.heap.size W0 W1) := Lib.hid (by rw [hW1]; exact (Below.refl _ _).drew)
  clear hW1
  refine wpAnyH_take (i := 0) (v := .agg #[.int .i64 k, .int .i64 o, .int .i64 a, .int .i64 y, .int .i64 d, .int .i64 q, .int .i64 p, .int .i64 l, .int .i64 s, .int .i64 n, .bool on, .int .i64 z, .int .i64 t]) rfl (by kernel_rfl) (by kernel_rfl) (by kernel_rfl) (fun _ _ _ h => h) (Or.inl ⟨by kernel_rfl, ?h0⟩) HB1.out ?_
  case h0 => (intro W9 hW9; obtain ⟨c0, c1, c2, c3, c4, c5, c6, c7, c8, c9, c10, c11, c12⟩ := cells13 (HX0.out W9 (show Below W0.heap.size W0 W9 from hW9)); go_simp)
  go_simp
  refine wpAnyH_ready (rs := [1]) (by kernel_rfl) (by simp) ?_
  refine AllReadyH.cons rfl (fun K hK => ?_) AllReadyH.nil
  go_simp
  go_wp2_with (refine Calls.mono (may_is k o a y d q p l s n on z t HM.out _) ?_; rintro e1 W2 ⟨rfl, hb⟩)
  have HB2 : Hid (Below W0.heap.size W0 W2) := Lib.hid (HB1.out.trans (hb.mono HB1.out.size))
  clear hb
  refine hK.out _ _ HB2.out (fun _ => ?_)
  clear hK K
  go_simp
  rcases m with _ | _
  · have hv : b = false := by rw [← HP.out]; rfl
    subst hv
    refine wpAnyH_take (i := 2) (v := .bool false) rfl (by kernel_rfl) (by kernel_rfl) (by kernel_rfl) (fun _ _ _ h => h) (Or.inl ⟨by kernel_rfl, ?h2⟩) HB2.out ?_
    case h2 => (intro W9 hW9; go_simp)
    go_simp
    refine wpAnyH_take (i := 3) (v := undef) rfl (by kernel_rfl) (by kernel_rfl) (by kernel_rfl) (fun _ _ _ h => h) (Or.inr ⟨by kernel_rfl, rfl⟩) HB2.out ?_
    go_simp
    refine wpAnyH_take (i := 4) (v := undef) rfl (by kernel_rfl) (by kernel_rfl) (by kernel_rfl) (fun _ _ _ h => h) (Or.inr ⟨by kernel_rfl, rfl⟩) HB2.out ?_
    go_simp
    refine wpAnyH_take (i := 5) (v := undef) rfl (by kernel_rfl) (by kernel_rfl) (by kernel_rfl) (fun _ _ _ h => h) (Or.inr ⟨by kernel_rfl, rfl⟩) HB2.out ?_
    go_simp
    refine wpAnyH_take (i := 6) (v := undef) rfl (by kernel_rfl) (by kernel_rfl) (by kernel_rfl) (fun _ _ _ h => h) (Or.inr ⟨by kernel_rfl, rfl⟩) HB2.out ?_
    go_simp
    refine wpAnyH_take (i := 7) (v := undef) rfl (by kernel_rfl) (by kernel_rfl) (by kernel_rfl) (fun _ _ _ h => h) (Or.inr ⟨by kernel_rfl, rfl⟩) HB2.out ?_
    go_simp
    refine wpAnyH_take (i := 8) (v := undef) rfl (by kernel_rfl) (by kernel_rfl) (by kernel_rfl) (fun _ _ _ h => h) (Or.inr ⟨by kernel_rfl, rfl⟩) HB2.out ?_
    go_simp
    refine wpAnyH_take (i := 9) (v := undef) rfl (by kernel_rfl) (by kernel_rfl) (by kernel_rfl) (fun _ _ _ h => h) (Or.inr ⟨by kernel_rfl, rfl⟩) HB2.out ?_
    go_simp
    refine wpAnyH_take (i := 10) (v := .bool false) rfl (by kernel_rfl) (by kernel_rfl) (by kernel_rfl) (fun _ _ _ h => h) (Or.inl ⟨by kernel_rfl, ?h10⟩) HB2.out ?_
    case h10 => (intro W9 hW9; go_simp)
    go_simp
    refine wpAnyH_take (i := 11) (v := .bool false) rfl (by kernel_rfl) (by kernel_rfl) (by kernel_rfl) (fun _ _ _ h => h) (Or.inl ⟨by kernel_rfl, ?h11⟩) HB2.out ?_
    case h11 => (intro W9 hW9; go_simp)
    go_simp
    refine wpAnyH_done (by kernel_rfl) ?_ _
    go_wp2_with fail
    go_ret
    exact ⟨rfl, HBW.out.trans (HB2.out.mono HBW.out.size)⟩
  · have hv : b = qq := by rw [← HP.out]; rfl
    subst hv
    refine wpAnyH_take (i := 2) (v := .bool true) rfl (by kernel_rfl) (by kernel_rfl) (by kernel_rfl) (fun _ _ _ h => h) (Or.inl ⟨by kernel_rfl, ?h2⟩) HB2.out ?_
    case h2 => (intro W9 hW9; go_simp)
    go_simp
    refine wpAnyH_take (i := 3) (v := .pointer (some ⟨w.heap.size, 0, none⟩)) rfl (by kernel_rfl) (by kernel_rfl) (by kernel_rfl) (fun _ _ _ h => h) (Or.inl ⟨by kernel_rfl, ?h3⟩) HB2.out ?_
    case h3 => (intro W9 hW9; go_simp)
    go_simp
    refine wpAnyH_take (i := 4) (v := .int .i64 k) rfl (by kernel_rfl) (by kernel_rfl) (by kernel_rfl) (fun _ _ _ h => h) (Or.inl ⟨by kernel_rfl, ?h4⟩) HB2.out ?_
    case h4 => (intro W9 hW9; obtain ⟨c0, c1, c2, c3, c4, c5, c6, c7, c8, c9, c10, c11, c12⟩ := cells13 (HX0.out W9 (show Below W0.heap.size W0 W9 from hW9)); go_simp)
    go_simp
    refine wpAnyH_take (i := 5) (v := .agg #[.int .i64 k, .int .i64 o, .int .i64 a, .int .i64 y, .int .i64 d, .int .i64 q, .int .i64 p, .int .i64 l, .int .i64 s, .int .i64 n, .bool on, .int .i64 z, .int .i64 t]) rfl (by kernel_rfl) (by kernel_rfl) (by kernel_rfl) (fun _ _ _ h => h) (Or.inl ⟨by kernel_rfl, ?h5⟩) HB2.out ?_
    case h5 => (intro W9 hW9; obtain ⟨c0, c1, c2, c3, c4, c5, c6, c7, c8, c9, c10, c11, c12⟩ := cells13 (HX0.out W9 (show Below W0.heap.size W0 W9 from hW9)); go_simp)
    go_simp
    refine wpAnyH_take (i := 8) (v := .agg #[.int .i64 k, .int .i64 o, .int .i64 a, .int .i64 y, .int .i64 d, .int .i64 q, .int .i64 p, .int .i64 l, .int .i64 s, .int .i64 n, .bool on, .int .i64 z, .int .i64 t]) rfl (by kernel_rfl) (by kernel_rfl) (by kernel_rfl) (fun _ _ _ h => h) (Or.inl ⟨by kernel_rfl, ?h8⟩) HB2.out ?_
    case h8 => (intro W9 hW9; obtain ⟨c0, c1, c2, c3, c4, c5, c6, c7, c8, c9, c10, c11, c12⟩ := cells13 (HX0.out W9 (show Below W0.heap.size W0 W9 from hW9)); go_simp)
    go_simp
    refine wpAnyH_ready (rs := [6]) (by kernel_rfl) (by simp) ?_
    refine AllReadyH.cons rfl (fun K hK => ?_) AllReadyH.nil
    go_simp
    go_wp2_with (refine Calls.mono (nums_is k o a y d q p l s n on z t HN.out _) ?_; rintro e2 W3 ⟨rfl, hb⟩)
    have HB3 : Hid (Below W0.heap.size W0 W3) := Lib.hid (HB2.out.trans (hb.mono HB2.out.size))
    clear hb
    refine hK.out _ _ HB3.out (fun _ => ?_)
    clear hK K
    go_simp
    refine wpAnyH_ready (rs := [7]) (by kernel_rfl) (by simp) ?_
    refine AllReadyH.cons rfl (fun K hK => ?_) AllReadyH.nil
    go_simp
    go_wp2_with (refine Calls.mono (read_is k x0 x1 x2 x3 x4 x5 HR.out _) ?_; rintro e3 W4 ⟨rfl, hb⟩)
    have HB4 : Hid (Below W0.heap.size W0 W4) := Lib.hid (HB3.out.trans (hb.mono HB3.out.size))
    clear hb
    refine hK.out _ _ HB4.out (fun _ => ?_)
    clear hK K
    go_simp
    refine wpAnyH_take (i := 9) (v := .bool b) rfl (by kernel_rfl) (by kernel_rfl) (by kernel_rfl) (fun _ _ _ h => h) (Or.inl ⟨by kernel_rfl, ?h9⟩) HB4.out ?_
    case h9 => (intro W9 hW9; go_simp)
    go_simp
    refine wpAnyH_take (i := 10) (v := .bool b) rfl (by kernel_rfl) (by kernel_rfl) (by kernel_rfl) (fun _ _ _ h => h) (Or.inl ⟨by kernel_rfl, ?h10⟩) HB4.out ?_
    case h10 => (intro W9 hW9; go_simp)
    go_simp
    refine wpAnyH_take (i := 11) (v := .bool b) rfl (by kernel_rfl) (by kernel_rfl) (by kernel_rfl) (fun _ _ _ h => h) (Or.inl ⟨by kernel_rfl, ?h11⟩) HB4.out ?_
    case h11 => (intro W9 hW9; go_simp)
    go_simp
    refine wpAnyH_done (by kernel_rfl) ?_ _
    go_wp2_with fail
    go_ret
    exact ⟨rfl, HBW.out.trans (HB4.out.mono HBW.out.size)⟩

end Go.Proofs.Ytkpapjdlpjjmbaa.rec
