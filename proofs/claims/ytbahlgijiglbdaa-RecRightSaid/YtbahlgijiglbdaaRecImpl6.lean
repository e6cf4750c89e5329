/-
  The contracts of package rec's Pack, Unpack, OfNote, Of, Frame.
-/
import Derived.Test.YtbahlgijiglbdaaRecImpl5
import Derived.Test.YtbahlgijiglbdaaFrameEq
namespace Go.Proofs.Ytbahlgijiglbdaa.rec
open Go.RowKit Go.Proofs.Ytbahlgijiglbdaa
set_option linter.unusedVariables false
set_option linter.unusedSimpArgs false
attribute [local go_sem] undef
attribute [local go_sem ↓] Go.wp_at_zero Go.wp_at_succ

theorem cells9 {W : World} {g : Nat} {T : TypeId} {e0 l0 k0 f0 f1 f2 f3 f4 f5 : Int} (h : W.heap[g]? = some (.cells #[.int .i64 e0, .int .i64 l0, .int .i64 k0, .int .i64 f0, .int .i64 f1, .int .i64 f2, .int .i64 f3, .int .i64 f4, .int .i64 f5] T (0, 0))) :
    W.cell? ⟨g, 0, none⟩ = some (.int .i64 e0) ∧ W.cell? ⟨g, 1, none⟩ = some (.int .i64 l0) ∧ W.cell? ⟨g, 2, none⟩ = some (.int .i64 k0) ∧ W.cell? ⟨g, 3, none⟩ = some (.int .i64 f0) ∧ W.cell? ⟨g, 4, none⟩ = some (.int .i64 f1) ∧ W.cell? ⟨g, 5, none⟩ = some (.int .i64 f2) ∧ W.cell? ⟨g, 6, none⟩ = some (.int .i64 f3) ∧ W.cell? ⟨g, 7, none⟩ = some (.int .i64 f4) ∧ W.cell? ⟨g, 8, none⟩ = some (.int .i64 f5) :=
  ⟨(block_cell h 0 _ rfl).1, (block_cell h 1 _ rfl).1, (block_cell h 2 _ rfl).1, (block_cell h 3 _ rfl).1, (block_cell h 4 _ rfl).1, (block_cell h 5 _ rfl).1, (block_cell h 6 _ rfl).1, (block_cell h 7 _ rfl).1, (block_cell h 8 _ rfl).1⟩

theorem pack_is (k o a y d q p l s n : Int) (on : Bool) (z t : Int) {b0 b1 b2 b3 b4 b5 e : Int} (hf : (⟨k, o, a, y, d, q, p, l, s, n, on, z, t⟩ : Rc).fine) (h : pack ⟨k, o, a, y, d, q, p, l, s, n, on, z, t⟩ = (⟨b0, b1, b2, b3, b4, b5⟩, e)) (w : World) : Calls Try.prog 8 #[.agg #[.int .i64 k, .int .i64 o, .int .i64 a, .int .i64 y, .int .i64 d, .int .i64 q, .int .i64 p, .int .i64 l, .int .i64 s, .int .i64 n, .bool on, .int .i64 z, .int .i64 t]] w fun e' w' => e' = .returned (.tuple #[.agg #[.int .i64 b0, .int .i64 b1, .int .i64 b2, .int .i64 b3, .int .i64 b4, .int .i64 b5], .int .i64 e]) ∧ Below w.heap.size w w' := by
  obtain ⟨W0, HW0⟩ : ∃ W, Hid (((w.alloc (.cells #[.int .i64 k, .int .i64 o, .int .i64 a, .int .i64 y, .int .i64 d, .int .i64 q, .int .i64 p, .int .i64 l, .int .i64 s, .int .i64 n, .bool on, .int .i64 z, .int .i64 t] 23)).alloc (.cells #[.int .i64 0, .int .i64 0, .int .i64 0, .int .i64 0, .int .i64 0, .int .i64 0] 24)) = W) := ⟨_, Lib.hid rfl⟩
  have HBW : Hid (Below w.heap.size w W0) := Lib.hid (by rw [← HW0.out]; exact ((Below.refl _ _).alloc (by simp) _).alloc (by simp; try omega) _)
  have HX0 : Hid (∀ W, Below W0.heap.size W0 W → W.heap[w.heap.size]? = some (.cells #[.int .i64 k, .int .i64 o, .int .i64 a, .int .i64 y, .int .i64 d, .int .i64 q, .int .i64 p, .int .i64 l, .int .i64 s, .int .i64 n, .bool on, .int .i64 z, .int .i64 t] 23 (0, 0))) := Lib.hid (fun W hb => (hb.block _ (by rw [← HW0.out]; simp; try omega)).trans (by rw [← HW0.out]; refine (Below.heap_alloc _ _ _ (by simp; try omega)).trans ?_; have := heap_alloc_new w (.cells #[.int .i64 k, .int .i64 o, .int .i64 a, .int .i64 y, .int .i64 d, .int .i64 q, .int .i64 p, .int .i64 l, .int .i64 s, .int .i64 n, .bool on, .int .i64 z, .int .i64 t] 23); exact this))
  have HX1 : Hid (∀ W, Below W0.heap.size W0 W → W.heap[w.heap.size + 1]? = some (.cells #[.int .i64 0, .int .i64 0, .int .i64 0, .int .i64 0, .int .i64 0, .int .i64 0] 24 (0, 0))) := Lib.hid (fun W hb => (hb.block _ (by rw [← HW0.out]; simp; try omega)).trans (by rw [← HW0.out]; have := heap_alloc_new (w.alloc (.cells #[.int .i64 k, .int .i64 o, .int .i64 a, .int .i64 y, .int .i64 d, .int .i64 q, .int .i64 p, .int .i64 l, .int .i64 s, .int .i64 n, .bool on, .int .i64 z, .int .i64 t] 23)) (.cells #[.int .i64 0, .int .i64 0, .int .i64 0, .int .i64 0, .int .i64 0, .int .i64 0] 24); simp only [World.size_alloc] at this; exact this))
  obtain ⟨m, hm⟩ : ∃ x, right ⟨k, o, a, y, d, q, p, l, s, n, on, z, t⟩ = x := ⟨_, rfl⟩
  have HM := Lib.hid hm
  have HP : Hid ((m = true ∧ nums ⟨k, o, a, y, d, q, p, l, s, n, on, z, t⟩ = ⟨b0, b1, b2, b3, b4, b5⟩ ∧ e = 0) ∨ (m = false ∧ b0 = 0 ∧ b1 = 0 ∧ b2 = 0 ∧ b3 = 0 ∧ b4 = 0 ∧ b5 = 0 ∧ e = 1)) := Lib.hid (by
    unfold pack at h
    rw [hm] at h
    cases m
    · simp [nz] at h; refine .inr ⟨rfl, ?_⟩; omega
    · simp at h; exact .inl ⟨rfl, h.1, h.2.symm⟩)
  clear h hm
  go_enter Try.func8, Try.ntmps8
  go_wp2_with fail
  refine Calls.mono (right_is k o a y d q p l s n on z t hf HM.out _) ?_
  rintro e1 w1 ⟨rfl, hb⟩
  rw [HW0.out] at hb
  have HB1 : Hid (Below W0.heap.size W0 w1) := Lib.hid hb
  clear hb
  rcases HP.out with ⟨rfl, hn, rfl⟩ | ⟨rfl, rfl, rfl, rfl, rfl, rfl, rfl, rfl⟩
  · have HN := Lib.hid hn
    clear hn
    obtain ⟨c0, c1, c2, c3, c4, c5, c6, c7, c8, c9, c10, c11, c12⟩ := cells13 (HX0.out w1 HB1.out)
    go_wp2_with fail
    refine Calls.mono (nums_is k o a y d q p l s n on z t HN.out _) ?_
    rintro e2 w2 ⟨rfl, hb⟩
    have HB2 : Hid (Below W0.heap.size W0 w2) := Lib.hid (HB1.out.trans (hb.mono HB1.out.size))
    clear hb
    have hwh : World.whole w2 (w.heap.size + 1) 6 24 := whole_of (HX1.out w2 HB2.out) rfl
    go_wp2_with (refine wpList_store_whole 24 (.tmp 2) (.tmp 9) (w.heap.size + 1) 6 _ 24 (by rfl) (by rfl) hwh (by rfl) (by kernel_rfl) (by kernel_rfl) ?_)
    obtain ⟨v0, v1, v2, v3, v4, v5⟩ := cells6 (setAll_self (vs := #[.int .i64 b0, .int .i64 b1, .int .i64 b2, .int .i64 b3, .int .i64 b4, .int .i64 b5]) hwh rfl)
    exact bodyPost_ret (v := .tuple #[.agg #[.int .i64 b0, .int .i64 b1, .int .i64 b2, .int .i64 b3, .int .i64 b4, .int .i64 b5], .int .i64 0]) (by simp [results, Try.results8, go_sem, v0, v1, v2, v3, v4, v5]) rfl ⟨rfl, setAll_below (HBW.out.trans (HB2.out.mono HBW.out.size)) (by omega)⟩
  · have hwh : World.whole w1 (w.heap.size + 1) 6 24 := whole_of (HX1.out w1 HB1.out) rfl
    go_wp2_with (refine wpList_store_whole 24 (.tmp 2) (.tmp 7) (w.heap.size + 1) 6 _ 24 (by rfl) (by rfl) hwh (by rfl) (by kernel_rfl) (by kernel_rfl) ?_)
    obtain ⟨v0, v1, v2, v3, v4, v5⟩ := cells6 (setAll_self (vs := #[.int .i64 0, .int .i64 0, .int .i64 0, .int .i64 0, .int .i64 0, .int .i64 0]) hwh rfl)
    exact bodyPost_ret (v := .tuple #[.agg #[.int .i64 0, .int .i64 0, .int .i64 0, .int .i64 0, .int .i64 0, .int .i64 0], .int .i64 1]) (by simp [results, Try.results8, go_sem, v0, v1, v2, v3, v4, v5]) rfl ⟨rfl, setAll_below (HBW.out.trans (HB1.out.mono HBW.out.size)) (by omega)⟩

theorem unp_is (k0 b0 b1 b2 b3 b4 b5 : Int) {k o a y d q p l s n : Int} {on : Bool} {z t : Int} {e : Int} (hk : frame.inR k0) (hf : (⟨b0, b1, b2, b3, b4, b5⟩ : Ns).fine) (h : unp k0 ⟨b0, b1, b2, b3, b4, b5⟩ = (⟨k, o, a, y, d, q, p, l, s, n, on, z, t⟩, e)) (w : World) : Calls Try.prog 14 #[.int .i64 k0, .agg #[.int .i64 b0, .int .i64 b1, .int .i64 b2, .int .i64 b3, .int .i64 b4, .int .i64 b5]] w fun e' w' => e' = .returned (.tuple #[.agg #[.int .i64 k, .int .i64 o, .int .i64 a, .int .i64 y, .int .i64 d, .int .i64 q, .int .i64 p, .int .i64 l, .int .i64 s, .int .i64 n, .bool on, .int .i64 z, .int .i64 t], .int .i64 e]) ∧ Below w.heap.size w w' := by
  obtain ⟨W0, HW0⟩ : ∃ W, Hid (((w.alloc (.cells #[.int .i64 b0, .int .i64 b1, .int .i64 b2, .int .i64 b3, .int .i64 b4, .int .i64 b5] 24)).alloc (.cells #[.int .i64 0, .int .i64 0, .int .i64 0, .int .i64 0, .int .i64 0, .int .i64 0, .int .i64 0, .int .i64 0, .int .i64 0, .int .i64 0, .bool false, .int .i64 0, .int .i64 0] 23)) = W) := ⟨_, Lib.hid rfl⟩
  have HBW : Hid (Below w.heap.size w W0) := Lib.hid (by rw [← HW0.out]; exact ((Below.refl _ _).alloc (by simp) _).alloc (by simp; try omega) _)
  have HX0 : Hid (∀ W, Below W0.heap.size W0 W → W.heap[w.heap.size]? = some (.cells #[.int .i64 b0, .int .i64 b1, .int .i64 b2, .int .i64 b3, .int .i64 b4, .int .i64 b5] 24 (0, 0))) := Lib.hid (fun W hb => (hb.block _ (by rw [← HW0.out]; simp; try omega)).trans (by rw [← HW0.out]; refine (Below.heap_alloc _ _ _ (by simp; try omega)).trans ?_; have := heap_alloc_new w (.cells #[.int .i64 b0, .int .i64 b1, .int .i64 b2, .int .i64 b3, .int .i64 b4, .int .i64 b5] 24); exact this))
  have HX1 : Hid (∀ W, Below W0.heap.size W0 W → W.heap[w.heap.size + 1]? = some (.cells #[.int .i64 0, .int .i64 0, .int .i64 0, .int .i64 0, .int .i64 0, .int .i64 0, .int .i64 0, .int .i64 0, .int .i64 0, .int .i64 0, .bool false, .int .i64 0, .int .i64 0] 23 (0, 0))) := Lib.hid (fun W hb => (hb.block _ (by rw [← HW0.out]; simp; try omega)).trans (by rw [← HW0.out]; have := heap_alloc_new (w.alloc (.cells #[.int .i64 b0, .int .i64 b1, .int .i64 b2, .int .i64 b3, .int .i64 b4, .int .i64 b5] 24)) (.cells #[.int .i64 0, .int .i64 0, .int .i64 0, .int .i64 0, .int .i64 0, .int .i64 0, .int .i64 0, .int .i64 0, .int .i64 0, .int .i64 0, .bool false, .int .i64 0, .int .i64 0] 23); simp only [World.size_alloc] at this; exact this))
  obtain ⟨r1, hr⟩ : ∃ x, rd k0 ⟨b0, b1, b2, b3, b4, b5⟩ = x := ⟨_, rfl⟩
  obtain ⟨k1, o1, a1, y1, d1, q1, p1, l1, s1, n1, on1, z1, t1⟩ := r1
  obtain ⟨m, hm⟩ : ∃ x, right ⟨k1, o1, a1, y1, d1, q1, p1, l1, s1, n1, on1, z1, t1⟩ = x := ⟨_, rfl⟩
  obtain ⟨xs, hx⟩ : ∃ x, nums ⟨k1, o1, a1, y1, d1, q1, p1, l1, s1, n1, on1, z1, t1⟩ = x := ⟨_, rfl⟩
  obtain ⟨x0, x1, x2, x3, x4, x5⟩ := xs
  obtain ⟨f0, HF0⟩ : ∃ f, Hid ((⟨b0, b1, b2, b3, b4, b5⟩ : Ns) = f) := ⟨_, Lib.hid rfl⟩
  obtain ⟨f1, HF1⟩ : ∃ f, Hid ((⟨x0, x1, x2, x3, x4, x5⟩ : Ns) = f) := ⟨_, Lib.hid rfl⟩
  have gr : (⟨k1, o1, a1, y1, d1, q1, p1, l1, s1, n1, on1, z1, t1⟩ : Rc).fine := by rw [← hr]; exact rd_fine hk hf
  have G0 : Hid f0.fine := Lib.hid (by rw [← HF0.out]; exact hf)
  have G1 : Hid f1.fine := Lib.hid (by rw [← HF1.out, ← hx]; exact nums_fine gr)
  obtain ⟨qq, hq⟩ : ∃ x, decide (f1 = f0) = x := ⟨_, rfl⟩
  have HQ := Lib.hid hq
  have HP : Hid ((m = true ∧ qq = true ∧ (⟨k1, o1, a1, y1, d1, q1, p1, l1, s1, n1, on1, z1, t1⟩ : Rc) = ⟨k, o, a, y, d, q, p, l, s, n, on, z, t⟩ ∧ e = 0) ∨ (m = true ∧ qq = false ∧ (rz : Rc) = ⟨k, o, a, y, d, q, p, l, s, n, on, z, t⟩ ∧ e = 2) ∨ (m = false ∧ (rz : Rc) = ⟨k, o, a, y, d, q, p, l, s, n, on, z, t⟩ ∧ e = 2)) := Lib.hid (by
    unfold unp at h
    rw [hr, hm, hx, HF0.out, HF1.out] at h
    cases m
    · simp at h; exact .inr (.inr ⟨rfl, h.1, h.2.symm⟩)
    · cases qq
      · rw [if_neg (by have := of_decide_eq_false hq; simpa using this)] at h; simp only [Prod.mk.injEq] at h; exact .inr (.inl ⟨rfl, rfl, h.1, h.2.symm⟩)
      · rw [if_pos ⟨rfl, of_decide_eq_true hq⟩] at h; simp only [Prod.mk.injEq] at h; exact .inl ⟨rfl, rfl, h.1, h.2.symm⟩)
  have HR := Lib.hid hr
  have HM := Lib.hid hm
  have HN := Lib.hid hx
  have HG := Lib.hid gr
  have heq : ∀ W, (Op.equalIn 10000 24 (.agg #[.int .i64 x0, .int .i64 x1, .int .i64 x2, .int .i64 x3, .int .i64 x4, .int .i64 x5]) (.agg #[.int .i64 b0, .int .i64 b1, .int .i64 b2, .int .i64 b3, .int .i64 b4, .int .i64 b5])).run Try.prog W = .ok qq W := fun W => eq6_of HF1.out HF0.out G1.out G0.out HQ.out W
  clear h hr hm hx hq hf hk gr
  go_enter Try.func14, Try.ntmps14
  go_wp2_with fail
  refine Calls.mono (read_is k0 b0 b1 b2 b3 b4 b5 HR.out _) ?_
  rintro e1 w1 ⟨rfl, hb⟩
  rw [HW0.out] at hb
  have HB1 : Hid (Below W0.heap.size W0 w1) := Lib.hid hb
  clear hb
  obtain ⟨W3, HW3⟩ : ∃ W, Hid ((w1.alloc (.cells #[.int .i64 k1, .int .i64 o1, .int .i64 a1, .int .i64 y1, .int .i64 d1, .int .i64 q1, .int .i64 p1, .int .i64 l1, .int .i64 s1, .int .i64 n1, .bool on1, .int .i64 z1, .int .i64 t1] 23)) = W) := ⟨_, Lib.hid rfl⟩
  have HB3 : Hid (Below W0.heap.size W0 W3) := Lib.hid (by rw [← HW3.out]; exact HB1.out.alloc HB1.out.size _)
  have HX3 : Hid (∀ W, Below W3.heap.size W3 W → W.heap[w1.heap.size]? = some (.cells #[.int .i64 k1, .int .i64 o1, .int .i64 a1, .int .i64 y1, .int .i64 d1, .int .i64 q1, .int .i64 p1, .int .i64 l1, .int .i64 s1, .int .i64 n1, .bool on1, .int .i64 z1, .int .i64 t1] 23 (0, 0))) := Lib.hid (fun W hb => (hb.block _ (by rw [← HW3.out]; simp)).trans (by rw [← HW3.out]; exact heap_alloc_new w1 _))
  have HX4 : Hid (∀ W, Below W3.heap.size W3 W → W.heap[w.heap.size]? = some (.cells #[.int .i64 b0, .int .i64 b1, .int .i64 b2, .int .i64 b3, .int .i64 b4, .int .i64 b5] 24 (0, 0))) := Lib.hid (fun W hb => HX0.out W (HB3.out.trans (hb.mono HB3.out.size)))
  go_upto_region 2 with fail
  rw [HW3.out]
  go_cut [18] (fun s wx => s = .bool (!(m && qq)) ∧ Below W3.heap.size W3 wx)
  case first =>
    refine wp_region_held_drew (S := fun W => Below W3.heap.size W3 W) (by kernel_rfl) (Below.refl _ _).drew (fun _ => ?_)
    obtain ⟨W4, hW4⟩ : ∃ x, x = W3.drew := ⟨_, rfl⟩
    rw [← hW4]
    have HB4 : Hid (Below W3.heap.size W3 W4) := Lib.hid (by rw [hW4]; exact (Below.refl _ _).drew)
    clear hW4
    refine wpAnyH_take (i := 0) (v := .agg #[.int .i64 k1, .int .i64 o1, .int .i64 a1, .int .i64 y1, .int .i64 d1, .int .i64 q1, .int .i64 p1, .int .i64 l1, .int .i64 s1, .int .i64 n1, .bool on1, .int .i64 z1, .int .i64 t1]) rfl (by kernel_rfl) (by kernel_rfl) (by kernel_rfl) (fun _ _ _ h => h) (Or.inl ⟨by kernel_rfl, ?h0⟩) HB4.out ?_
    case h0 => (intro W9 hW9; obtain ⟨c0, c1, c2, c3, c4, c5, c6, c7, c8, c9, c10, c11, c12⟩ := cells13 (HX3.out W9 (show Below W3.heap.size W3 W9 from hW9)); go_simp)
    go_simp
    refine wpAnyH_ready (rs := [1]) (by kernel_rfl) (by simp) ?_
    refine AllReadyH.cons rfl (fun K hK => ?_) AllReadyH.nil
    go_simp
    go_wp2_with (refine Calls.mono (right_is k1 o1 a1 y1 d1 q1 p1 l1 s1 n1 on1 z1 t1 HG.out HM.out _) ?_; rintro e4 W5 ⟨rfl, hb⟩)
    have HB5 : Hid (Below W3.heap.size W3 W5) := Lib.hid (HB4.out.trans (hb.mono HB4.out.size))
    clear hb
    refine hK.out _ _ HB5.out (fun _ => ?_)
    clear hK K
    go_simp
    rcases m with _ | _
    · refine wpAnyH_take (i := 2) (v := .bool true) rfl (by kernel_rfl) (by kernel_rfl) (by kernel_rfl) (fun _ _ _ h => h) (Or.inl ⟨by kernel_rfl, ?h2⟩) HB5.out ?_
      case h2 => (intro W9 hW9; go_simp)
      go_simp
      refine wpAnyH_take (i := 3) (v := .bool true) rfl (by kernel_rfl) (by kernel_rfl) (by kernel_rfl) (fun _ _ _ h => h) (Or.inl ⟨by kernel_rfl, ?h3⟩) HB5.out ?_
      case h3 => (intro W9 hW9; go_simp)
      go_simp
      refine wpAnyH_take (i := 4) (v := undef) rfl (by kernel_rfl) (by kernel_rfl) (by kernel_rfl) (fun _ _ _ h => h) (Or.inr ⟨by kernel_rfl, rfl⟩) HB5.out ?_
      go_simp
      refine wpAnyH_take (i := 5) (v := undef) rfl (by kernel_rfl) (by kernel_rfl) (by kernel_rfl) (fun _ _ _ h => h) (Or.inr ⟨by kernel_rfl, rfl⟩) HB5.out ?_
      go_simp
      refine wpAnyH_take (i := 6) (v := undef) rfl (by kernel_rfl) (by kernel_rfl) (by kernel_rfl) (fun _ _ _ h => h) (Or.inr ⟨by kernel_rfl, rfl⟩) HB5.out ?_
      go_simp
      refine wpAnyH_take (i := 7) (v := undef) rfl (by kernel_rfl) (by kernel_rfl) (by kernel_rfl) (fun _ _ _ h => h) (Or.inr ⟨by kernel_rfl, rfl⟩) HB5.out ?_
      go_simp
      refine wpAnyH_take (i := 8) (v := .bool true) rfl (by kernel_rfl) (by kernel_rfl) (by kernel_rfl) (fun _ _ _ h => h) (Or.inl ⟨by kernel_rfl, ?h8⟩) HB5.out ?_
      case h8 => (intro W9 hW9; go_simp)
      go_simp
      refine wpAnyH_done (by kernel_rfl) ?_ _
      go_wp2_with fail
      go_meet
      exact ⟨rfl, HB5.out⟩
    · refine wpAnyH_take (i := 2) (v := .bool false) rfl (by kernel_rfl) (by kernel_rfl) (by kernel_rfl) (fun _ _ _ h => h) (Or.inl ⟨by kernel_rfl, ?h2⟩) HB5.out ?_
      case h2 => (intro W9 hW9; go_simp)
      go_simp
      refine wpAnyH_take (i := 3) (v := .bool false) rfl (by kernel_rfl) (by kernel_rfl) (by kernel_rfl) (fun _ _ _ h => h) (Or.inl ⟨by kernel_rfl, ?h3⟩) HB5.out ?_
      case h3 => (intro W9 hW9; go_simp)
      go_simp
      refine wpAnyH_take (i := 4) (v := .agg #[.int .i64 k1, .int .i64 o1, .int .i64 a1, .int .i64 y1, .int .i64 d1, .int .i64 q1, .int .i64 p1, .int .i64 l1, .int .i64 s1, .int .i64 n1, .bool on1, .int .i64 z1, .int .i64 t1]) rfl (by kernel_rfl) (by kernel_rfl) (by kernel_rfl) (fun _ _ _ h => h) (Or.inl ⟨by kernel_rfl, ?h4⟩) HB5.out ?_
      case h4 => (intro W9 hW9; obtain ⟨c0, c1, c2, c3, c4, c5, c6, c7, c8, c9, c10, c11, c12⟩ := cells13 (HX3.out W9 (show Below W3.heap.size W3 W9 from hW9)); go_simp)
      go_simp
      refine wpAnyH_take (i := 6) (v := .agg #[.int .i64 b0, .int .i64 b1, .int .i64 b2, .int .i64 b3, .int .i64 b4, .int .i64 b5]) rfl (by kernel_rfl) (by kernel_rfl) (by kernel_rfl) (fun _ _ _ h => h) (Or.inl ⟨by kernel_rfl, ?h6⟩) HB5.out ?_
      case h6 => (intro W9 hW9; obtain ⟨d0, d1, d2, d3, d4, d5⟩ := cells6 (HX4.out W9 (show Below W3.heap.size W3 W9 from hW9)); go_simp)
      go_simp
      refine wpAnyH_ready (rs := [5]) (by kernel_rfl) (by simp) ?_
      refine AllReadyH.cons rfl (fun K hK => ?_) AllReadyH.nil
      go_simp
      go_wp2_with (refine Calls.mono (nums_is k1 o1 a1 y1 d1 q1 p1 l1 s1 n1 on1 z1 t1 HN.out _) ?_; rintro e5 W6 ⟨rfl, hb⟩)
      have HB6 : Hid (Below W3.heap.size W3 W6) := Lib.hid (HB5.out.trans (hb.mono HB5.out.size))
      clear hb
      refine hK.out _ _ HB6.out (fun _ => ?_)
      clear hK K
      go_simp
      refine wpAnyH_take (i := 7) (v := .bool (!qq)) rfl (by kernel_rfl) (by kernel_rfl) (by kernel_rfl) (fun _ _ _ h => h) (Or.inl ⟨by kernel_rfl, ?h7⟩) HB6.out ?_
      case h7 => (intro W9 hW9; go_simp)
      go_simp
      refine wpAnyH_take (i := 8) (v := .bool (!qq)) rfl (by kernel_rfl) (by kernel_rfl) (by kernel_rfl) (fun _ _ _ h => h) (Or.inl ⟨by kernel_rfl, ?h8⟩) HB6.out ?_
      case h8 => (intro W9 hW9; go_simp)
      go_simp
      refine wpAnyH_done (by kernel_rfl) ?_ _
      go_wp2_with fail
      go_meet
      exact ⟨rfl, HB6.out⟩
  case rest =>
    obtain ⟨rfl, hgc⟩ := hcut
    have HBC : Hid (Below W0.heap.size W0 wc) := Lib.hid (HB3.out.trans (hgc.mono HB3.out.size))
    rcases HP.out with ⟨rfl, rfl, hh, rfl⟩ | ⟨rfl, rfl, hh, rfl⟩ | ⟨rfl, hh, rfl⟩
    · simp only [Rc.mk.injEq] at hh
      obtain ⟨rfl, rfl, rfl, rfl, rfl, rfl, rfl, rfl, rfl, rfl, rfl, rfl, rfl⟩ := hh
      obtain ⟨c0, c1, c2, c3, c4, c5, c6, c7, c8, c9, c10, c11, c12⟩ := cells13 (HX3.out wc hgc)
      simp only [Bool.and_true, Bool.true_and, Bool.not_true, Bool.not_false, Bool.and_false, Bool.false_and]
      have hwh : World.whole wc (w.heap.size + 1) 13 23 := whole_of (HX1.out wc HBC.out) rfl
      clear hgc
      go_wp2_with (refine wpList_store_whole 23 (.tmp 4) (.tmp 20) (w.heap.size + 1) 13 _ 23 (by rfl) (by rfl) hwh (by rfl) (by kernel_rfl) (by kernel_rfl) ?_)
      obtain ⟨v0, v1, v2, v3, v4, v5, v6, v7, v8, v9, v10, v11, v12⟩ := cells13 (setAll_self (vs := #[.int .i64 k1, .int .i64 o1, .int .i64 a1, .int .i64 y1, .int .i64 d1, .int .i64 q1, .int .i64 p1, .int .i64 l1, .int .i64 s1, .int .i64 n1, .bool on1, .int .i64 z1, .int .i64 t1]) hwh rfl)
      exact bodyPost_ret (v := .tuple #[.agg #[.int .i64 k1, .int .i64 o1, .int .i64 a1, .int .i64 y1, .int .i64 d1, .int .i64 q1, .int .i64 p1, .int .i64 l1, .int .i64 s1, .int .i64 n1, .bool on1, .int .i64 z1, .int .i64 t1], .int .i64 0]) (by simp [results, Try.results14, go_sem, v0, v1, v2, v3, v4, v5, v6, v7, v8, v9, v10, v11, v12]) rfl ⟨rfl, setAll_below (HBW.out.trans (HBC.out.mono HBW.out.size)) (by omega)⟩
    · simp only [rz, Rc.mk.injEq] at hh
      obtain ⟨rfl, rfl, rfl, rfl, rfl, rfl, rfl, rfl, rfl, rfl, rfl, rfl, rfl⟩ := hh
      simp only [Bool.and_true, Bool.true_and, Bool.not_true, Bool.not_false, Bool.and_false, Bool.false_and]
      have hwh : World.whole wc (w.heap.size + 1) 13 23 := whole_of (HX1.out wc HBC.out) rfl
      clear hgc
      go_wp2_with (refine wpList_store_whole 23 (.tmp 4) (.tmp 19) (w.heap.size + 1) 13 _ 23 (by rfl) (by rfl) hwh (by rfl) (by kernel_rfl) (by kernel_rfl) ?_)
      obtain ⟨v0, v1, v2, v3, v4, v5, v6, v7, v8, v9, v10, v11, v12⟩ := cells13 (setAll_self (vs := #[.int .i64 0, .int .i64 0, .int .i64 0, .int .i64 0, .int .i64 0, .int .i64 0, .int .i64 0, .int .i64 0, .int .i64 0, .int .i64 0, .bool false, .int .i64 0, .int .i64 0]) hwh rfl)
      exact bodyPost_ret (v := .tuple #[.agg #[.int .i64 0, .int .i64 0, .int .i64 0, .int .i64 0, .int .i64 0, .int .i64 0, .int .i64 0, .int .i64 0, .int .i64 0, .int .i64 0, .bool false, .int .i64 0, .int .i64 0], .int .i64 2]) (by simp [results, Try.results14, go_sem, v0, v1, v2, v3, v4, v5, v6, v7, v8, v9, v10, v11, v12]) rfl ⟨rfl, setAll_below (HBW.out.trans (HBC.out.mono HBW.out.size)) (by omega)⟩
    · simp only [rz, Rc.mk.injEq] at hh
      obtain ⟨rfl, rfl, rfl, rfl, rfl, rfl, rfl, rfl, rfl, rfl, rfl, rfl, rfl⟩ := hh
      simp only [Bool.and_true, Bool.true_and, Bool.not_true, Bool.not_false, Bool.and_false, Bool.false_and]
      have hwh : World.whole wc (w.heap.size + 1) 13 23 := whole_of (HX1.out wc HBC.out) rfl
      clear hgc
      go_wp2_with (refine wpList_store_whole 23 (.tmp 4) (.tmp 19) (w.heap.size + 1) 13 _ 23 (by rfl) (by rfl) hwh (by rfl) (by kernel_rfl) (by kernel_rfl) ?_)
      obtain ⟨v0, v1, v2, v3, v4, v5, v6, v7, v8, v9, v10, v11, v12⟩ := cells13 (setAll_self (vs := #[.int .i64 0, .int .i64 0, .int .i64 0, .int .i64 0, .int .i64 0, .int .i64 0, .int .i64 0, .int .i64 0, .int .i64 0, .int .i64 0, .bool false, .int .i64 0, .int .i64 0]) hwh rfl)
      exact bodyPost_ret (v := .tuple #[.agg #[.int .i64 0, .int .i64 0, .int .i64 0, .int .i64 0, .int .i64 0, .int .i64 0, .int .i64 0, .int .i64 0, .int .i64 0, .int .i64 0, .bool false, .int .i64 0, .int .i64 0], .int .i64 2]) (by simp [results, Try.results14, go_sem, v0, v1, v2, v3, v4, v5, v6, v7, v8, v9, v10, v11, v12]) rfl ⟨rfl, setAll_below (HBW.out.trans (HBC.out.mono HBW.out.size)) (by omega)⟩

theorem ofNote_any (z t o q p : Int) (w : World) : Calls Try.prog 11 #[.agg #[.int .i64 z, .int .i64 t, .int .i64 o, .int .i64 q, .int .i64 p]] w fun e' w' => e' = .returned (.agg #[.int .i64 6, .int .i64 o, .int .i64 0, .int .i64 0, .int .i64 0, .int .i64 q, .int .i64 p, .int .i64 0, .int .i64 0, .int .i64 0, .bool false, .int .i64 z, .int .i64 t]) ∧ Below w.heap.size w w' := by
  go_enter Try.func11, Try.ntmps11
  go_wp2
  exact bodyPost_ret (v := .agg #[.int .i64 6, .int .i64 o, .int .i64 0, .int .i64 0, .int .i64 0, .int .i64 q, .int .i64 p, .int .i64 0, .int .i64 0, .int .i64 0, .bool false, .int .i64 z, .int .i64 t]) (by simp [results, Try.results11, go_sem]) rfl ⟨rfl, ((Below.refl _ _).alloc (Nat.le_refl _) _).alloc (by simp) _⟩

theorem of_is (e0 l0 k0 b0 b1 b2 b3 b4 b5 : Int) {k o a y d q p l s n : Int} {on : Bool} {z t : Int} {e : Int} (hk : frame.inR k0) (hf : (⟨b0, b1, b2, b3, b4, b5⟩ : Ns).fine) (h : unp k0 ⟨b0, b1, b2, b3, b4, b5⟩ = (⟨k, o, a, y, d, q, p, l, s, n, on, z, t⟩, e)) (w : World) : Calls Try.prog 16 #[.agg #[.int .i64 e0, .int .i64 l0, .int .i64 k0, .int .i64 b0, .int .i64 b1, .int .i64 b2, .int .i64 b3, .int .i64 b4, .int .i64 b5]] w fun e' w' => e' = .returned (.tuple #[.agg #[.int .i64 k, .int .i64 o, .int .i64 a, .int .i64 y, .int .i64 d, .int .i64 q, .int .i64 p, .int .i64 l, .int .i64 s, .int .i64 n, .bool on, .int .i64 z, .int .i64 t], .int .i64 e]) ∧ Below w.heap.size w w' := by
  obtain ⟨W0, HW0⟩ : ∃ W, Hid (((w.alloc (.cells #[.int .i64 e0, .int .i64 l0, .int .i64 k0, .int .i64 b0, .int .i64 b1, .int .i64 b2, .int .i64 b3, .int .i64 b4, .int .i64 b5] 33)).alloc (.cells #[.int .i64 0, .int .i64 0, .int .i64 0, .int .i64 0, .int .i64 0, .int .i64 0, .int .i64 0, .int .i64 0, .int .i64 0, .int .i64 0, .bool false, .int .i64 0, .int .i64 0] 23)) = W) := ⟨_, Lib.hid rfl⟩
  have HBW : Hid (Below w.heap.size w W0) := Lib.hid (by rw [← HW0.out]; exact ((Below.refl _ _).alloc (by simp) _).alloc (by simp; try omega) _)
  have HX0 : Hid (∀ W, Below W0.heap.size W0 W → W.heap[w.heap.size]? = some (.cells #[.int .i64 e0, .int .i64 l0, .int .i64 k0, .int .i64 b0, .int .i64 b1, .int .i64 b2, .int .i64 b3, .int .i64 b4, .int .i64 b5] 33 (0, 0))) := Lib.hid (fun W hb => (hb.block _ (by rw [← HW0.out]; simp; try omega)).trans (by rw [← HW0.out]; refine (Below.heap_alloc _ _ _ (by simp; try omega)).trans ?_; have := heap_alloc_new w (.cells #[.int .i64 e0, .int .i64 l0, .int .i64 k0, .int .i64 b0, .int .i64 b1, .int .i64 b2, .int .i64 b3, .int .i64 b4, .int .i64 b5] 33); exact this))
  have HX1 : Hid (∀ W, Below W0.heap.size W0 W → W.heap[w.heap.size + 1]? = some (.cells #[.int .i64 0, .int .i64 0, .int .i64 0, .int .i64 0, .int .i64 0, .int .i64 0, .int .i64 0, .int .i64 0, .int .i64 0, .int .i64 0, .bool false, .int .i64 0, .int .i64 0] 23 (0, 0))) := Lib.hid (fun W hb => (hb.block _ (by rw [← HW0.out]; simp; try omega)).trans (by rw [← HW0.out]; have := heap_alloc_new (w.alloc (.cells #[.int .i64 e0, .int .i64 l0, .int .i64 k0, .int .i64 b0, .int .i64 b1, .int .i64 b2, .int .i64 b3, .int .i64 b4, .int .i64 b5] 33)) (.cells #[.int .i64 0, .int .i64 0, .int .i64 0, .int .i64 0, .int .i64 0, .int .i64 0, .int .i64 0, .int .i64 0, .int .i64 0, .int .i64 0, .bool false, .int .i64 0, .int .i64 0] 23); simp only [World.size_alloc] at this; exact this))
  have HF := Lib.hid hf
  have HK := Lib.hid hk
  have HU := Lib.hid h
  clear hf hk h
  go_enter Try.func16, Try.ntmps16
  go_wp2_with fail
  refine Calls.mono (unp_is k0 b0 b1 b2 b3 b4 b5 HK.out HF.out HU.out _) ?_
  rintro e1 w1 ⟨rfl, hb⟩
  rw [HW0.out] at hb
  have HB1 : Hid (Below W0.heap.size W0 w1) := Lib.hid hb
  clear hb
  have hwh : World.whole w1 (w.heap.size + 1) 13 23 := whole_of (HX1.out w1 HB1.out) rfl
  go_wp2_with (refine wpList_store_whole 23 (.tmp 2) (.tmp 9) (w.heap.size + 1) 13 _ 23 (by rfl) (by rfl) hwh (by rfl) (by kernel_rfl) (by kernel_rfl) ?_)
  obtain ⟨v0, v1, v2, v3, v4, v5, v6, v7, v8, v9, v10, v11, v12⟩ := cells13 (setAll_self (vs := #[.int .i64 k, .int .i64 o, .int .i64 a, .int .i64 y, .int .i64 d, .int .i64 q, .int .i64 p, .int .i64 l, .int .i64 s, .int .i64 n, .bool on, .int .i64 z, .int .i64 t]) hwh rfl)
  exact bodyPost_ret (v := .tuple #[.agg #[.int .i64 k, .int .i64 o, .int .i64 a, .int .i64 y, .int .i64 d, .int .i64 q, .int .i64 p, .int .i64 l, .int .i64 s, .int .i64 n, .bool on, .int .i64 z, .int .i64 t], .int .i64 e]) (by simp [results, Try.results16, go_sem, v0, v1, v2, v3, v4, v5, v6, v7, v8, v9, v10, v11, v12]) rfl ⟨rfl, setAll_below (HBW.out.trans (HB1.out.mono HBW.out.size)) (by omega)⟩

set_option maxHeartbeats 2000000 in
theorem frame_is (k o a y d q p l s n : Int) (on : Bool) (z t : Int) (lsn epoch : Int) {e0 l0 k0 f0 f1 f2 f3 f4 f5 e : Int} (hf : (⟨k, o, a, y, d, q, p, l, s, n, on, z, t⟩ : Rc).fine) (h : framed ⟨k, o, a, y, d, q, p, l, s, n, on, z, t⟩ lsn epoch = (⟨e0, l0, k0, f0, f1, f2, f3, f4, f5⟩, e)) (w : World) : Calls Try.prog 9 #[.agg #[.int .i64 k, .int .i64 o, .int .i64 a, .int .i64 y, .int .i64 d, .int .i64 q, .int .i64 p, .int .i64 l, .int .i64 s, .int .i64 n, .bool on, .int .i64 z, .int .i64 t], .int .i64 lsn, .int .i64 epoch] w fun e' w' => e' = .returned (.tuple #[.agg #[.int .i64 e0, .int .i64 l0, .int .i64 k0, .int .i64 f0, .int .i64 f1, .int .i64 f2, .int .i64 f3, .int .i64 f4, .int .i64 f5], .int .i64 e]) ∧ Below w.heap.size w w' := by
  obtain ⟨W0, HW0⟩ : ∃ W, Hid (((w.alloc (.cells #[.int .i64 k, .int .i64 o, .int .i64 a, .int .i64 y, .int .i64 d, .int .i64 q, .int .i64 p, .int .i64 l, .int .i64 s, .int .i64 n, .bool on, .int .i64 z, .int .i64 t] 23)).alloc (.cells #[.int .i64 0, .int .i64 0, .int .i64 0, .int .i64 0, .int .i64 0, .int .i64 0, .int .i64 0, .int .i64 0, .int .i64 0] 33)) = W) := ⟨_, Lib.hid rfl⟩
  have HBW : Hid (Below w.heap.size w W0) := Lib.hid (by rw [← HW0.out]; exact ((Below.refl _ _).alloc (by simp) _).alloc (by simp; try omega) _)
  have HX0 : Hid (∀ W, Below W0.heap.size W0 W → W.heap[w.heap.size]? = some (.cells #[.int .i64 k, .int .i64 o, .int .i64 a, .int .i64 y, .int .i64 d, .int .i64 q, .int .i64 p, .int .i64 l, .int .i64 s, .int .i64 n, .bool on, .int .i64 z, .int .i64 t] 23 (0, 0))) := Lib.hid (fun W hb => (hb.block _ (by rw [← HW0.out]; simp; try omega)).trans (by rw [← HW0.out]; refine (Below.heap_alloc _ _ _ (by simp; try omega)).trans ?_; have := heap_alloc_new w (.cells #[.int .i64 k, .int .i64 o, .int .i64 a, .int .i64 y, .int .i64 d, .int .i64 q, .int .i64 p, .int .i64 l, .int .i64 s, .int .i64 n, .bool on, .int .i64 z, .int .i64 t] 23); exact this))
  have HX1 : Hid (∀ W, Below W0.heap.size W0 W → W.heap[w.heap.size + 1]? = some (.cells #[.int .i64 0, .int .i64 0, .int .i64 0, .int .i64 0, .int .i64 0, .int .i64 0, .int .i64 0, .int .i64 0, .int .i64 0] 33 (0, 0))) := Lib.hid (fun W hb => (hb.block _ (by rw [← HW0.out]; simp; try omega)).trans (by rw [← HW0.out]; have := heap_alloc_new (w.alloc (.cells #[.int .i64 k, .int .i64 o, .int .i64 a, .int .i64 y, .int .i64 d, .int .i64 q, .int .i64 p, .int .i64 l, .int .i64 s, .int .i64 n, .bool on, .int .i64 z, .int .i64 t] 23)) (.cells #[.int .i64 0, .int .i64 0, .int .i64 0, .int .i64 0, .int .i64 0, .int .i64 0, .int .i64 0, .int .i64 0, .int .i64 0] 33); simp only [World.size_alloc] at this; exact this))
  obtain ⟨⟨⟨x0, x1, x2, x3, x4, x5⟩, e1⟩, hp⟩ : ∃ x, pack ⟨k, o, a, y, d, q, p, l, s, n, on, z, t⟩ = x := ⟨_, rfl⟩
  have HP : Hid ((e1 = 0 ∧ e0 = epoch ∧ l0 = lsn ∧ k0 = k ∧ f0 = x0 ∧ f1 = x1 ∧ f2 = x2 ∧ f3 = x3 ∧ f4 = x4 ∧ f5 = x5 ∧ e = 0) ∨ (e1 = 1 ∧ e0 = 0 ∧ l0 = 0 ∧ k0 = 0 ∧ f0 = 0 ∧ f1 = 0 ∧ f2 = 0 ∧ f3 = 0 ∧ f4 = 0 ∧ f5 = 0 ∧ e = 1)) := Lib.hid (by
    unfold framed at h
    unfold pack at hp
    by_cases hr : right ⟨k, o, a, y, d, q, p, l, s, n, on, z, t⟩ = true
    · rw [if_pos hr] at h hp
      simp only [Prod.mk.injEq] at h hp
      obtain ⟨h1, h2⟩ := h
      obtain ⟨h3, h4⟩ := hp
      unfold fr at h1
      rw [h3] at h1
      simp only [frame.Fr.mk.injEq] at h1
      refine .inl ?_
      omega
    · rw [if_neg hr] at h hp
      simp only [Prod.mk.injEq, frame.zero, frame.Fr.mk.injEq] at h hp
      refine .inr ?_
      omega)
  have HPK := Lib.hid hp
  clear h hp
  go_enter Try.func9, Try.ntmps9
  go_wp2_with fail
  refine Calls.mono (pack_is k o a y d q p l s n on z t hf HPK.out _) ?_
  rintro e1 w1 ⟨rfl, hb⟩
  rw [HW0.out] at hb
  have HB1 : Hid (Below W0.heap.size W0 w1) := Lib.hid hb
  clear hb
  obtain ⟨W3, HW3⟩ : ∃ W, Hid ((w1.alloc (.cells #[.int .i64 x0, .int .i64 x1, .int .i64 x2, .int .i64 x3, .int .i64 x4, .int .i64 x5] 24)) = W) := ⟨_, Lib.hid rfl⟩
  have HB3 : Hid (Below W0.heap.size W0 W3) := Lib.hid (by rw [← HW3.out]; exact HB1.out.alloc HB1.out.size _)
  have hx6 : (w1.alloc (.cells #[.int .i64 x0, .int .i64 x1, .int .i64 x2, .int .i64 x3, .int .i64 x4, .int .i64 x5] 24)).heap[w1.heap.size]? = some (.cells #[.int .i64 x0, .int .i64 x1, .int .i64 x2, .int .i64 x3, .int .i64 x4, .int .i64 x5] 24 (0, 0)) := heap_alloc_new w1 _
  have hwh0 : World.whole W3 (w.heap.size + 1) 9 33 := whole_of (HX1.out W3 HB3.out) rfl
  obtain ⟨c0, c1, c2, c3, c4, c5, c6, c7, c8, c9, c10, c11, c12⟩ := cells13 (HX0.out W3 HB3.out)
  rw [← HW3.out] at hwh0 c0 c1 c2 c3 c4 c5 c6 c7 c8 c9 c10 c11 c12
  have hwh : World.whole (w1.alloc (.cells #[.int .i64 x0, .int .i64 x1, .int .i64 x2, .int .i64 x3, .int .i64 x4, .int .i64 x5] 24)) (w.heap.size + 1) 9 33 := hwh0
  rcases HP.out with ⟨rfl, rfl, rfl, rfl, rfl, rfl, rfl, rfl, rfl, rfl, rfl⟩ | ⟨rfl, rfl, rfl, rfl, rfl, rfl, rfl, rfl, rfl, rfl, rfl⟩
  · clear hwh0
    go_wp2_with (refine wpList_store_whole 33 (.tmp 6) (.tmp 24) (w.heap.size + 1) 9 _ 33 (by rfl) (by rfl) hwh (by rfl) (by kernel_rfl) (by kernel_rfl) ?_)
    obtain ⟨v0, v1, v2, v3, v4, v5, v6, v7, v8⟩ := cells9 (setAll_self (vs := #[.int .i64 e0, .int .i64 l0, .int .i64 k0, .int .i64 f0, .int .i64 f1, .int .i64 f2, .int .i64 f3, .int .i64 f4, .int .i64 f5]) hwh rfl)
    exact bodyPost_ret (v := .tuple #[.agg #[.int .i64 e0, .int .i64 l0, .int .i64 k0, .int .i64 f0, .int .i64 f1, .int .i64 f2, .int .i64 f3, .int .i64 f4, .int .i64 f5], .int .i64 0]) (by simp [results, Try.results9, go_sem, v0, v1, v2, v3, v4, v5, v6, v7, v8]) rfl ⟨rfl, setAll_below (HBW.out.trans ((by rw [HW3.out]; exact HB3.out : Below W0.heap.size W0 _).mono HBW.out.size)) (by omega)⟩
  · clear hwh0
    go_wp2_with (refine wpList_store_whole 33 (.tmp 6) (.tmp 17) (w.heap.size + 1) 9 _ 33 (by rfl) (by rfl) hwh (by rfl) (by kernel_rfl) (by kernel_rfl) ?_)
    obtain ⟨v0, v1, v2, v3, v4, v5, v6, v7, v8⟩ := cells9 (setAll_self (vs := #[.int .i64 0, .int .i64 0, .int .i64 0, .int .i64 0, .int .i64 0, .int .i64 0, .int .i64 0, .int .i64 0, .int .i64 0]) hwh rfl)
    exact bodyPost_ret (v := .tuple #[.agg #[.int .i64 0, .int .i64 0, .int .i64 0, .int .i64 0, .int .i64 0, .int .i64 0, .int .i64 0, .int .i64 0, .int .i64 0], .int .i64 1]) (by simp [results, Try.results9, go_sem, v0, v1, v2, v3, v4, v5, v6, v7, v8]) rfl ⟨rfl, setAll_below (HBW.out.trans ((by rw [HW3.out]; exact HB3.out : Below W0.heap.size W0 _).mono HBW.out.size)) (by omega)⟩

end Go.Proofs.Ytbahlgijiglbdaa.rec
