/-
  OrdImplT, CellImplV
-/
import Derived.Test.YtiljgndgffoloabMA31
import Derived.Test.YtiljgndgffoloabMA27
import Derived.Deep.DeepCutAuto
import Derived.Test.YtiljgndgffoloabMA11
import Derived.Test.YtiljgndgffoloabMA10
import Derived.Test.YtiljgndgffoloabMA05
import Derived.Deep.DrawnRows
import Derived.Deep.RegionHeld
section
namespace Go.Proofs.Ytiljgndgffoloab.order
open Go.RowKit Go.Proofs.Ytiljgndgffoloab
open Go.Proofs.Ytiljgndgffoloab.rec (cells13)
set_option linter.unusedVariables false
set_option linter.unusedSimpArgs false
set_option maxRecDepth 20000
set_option maxHeartbeats 8000000

theorem told_in {o : Or} {n : Nt} (hr : right o = true) (hn : noteOk n = true) (hc : can o n = true) (hf : o.fine) : n.t = 3 → -9223372036854775808 ≤ o.f + n.q ∧ o.f + n.q ≤ 9223372036854775807 := fun ht => by
  have h1 := right_iff.1 hr
  have h2 := (noteOk_iff.1 hn).2.2
  rw [ht] at h2
  have h3 := (tell_fill h2).1
  have h4 := hf.2.2.2.2.1
  unfold frame.inR at h4
  unfold Rightly at h1
  simp only [can, ht, decide_eq_true_eq] at hc
  omega

theorem take_any (i a y d q p f ph m r v : Int) (g : Bool) (zN tN oN qN pN : Int) (hf : (⟨i, a, y, d, q, p, f, ph, m, r, v, g⟩ : Or).fine) (hn : frame.inR zN ∧ frame.inR tN ∧ frame.inR oN ∧ frame.inR qN ∧ frame.inR pN) (w : World) : Calls Try.prog 68 #[.agg #[.int .i64 i, .int .i64 a, .int .i64 y, .int .i64 d, .int .i64 q, .int .i64 p, .int .i64 f, .int .i64 ph, .int .i64 m, .int .i64 r, .int .i64 v, .bool g], .agg #[.int .i64 zN, .int .i64 tN, .int .i64 oN, .int .i64 qN, .int .i64 pN]] w fun e w' => e = .returned (.tuple #[.agg (oc (take ⟨i, a, y, d, q, p, f, ph, m, r, v, g⟩ ⟨zN, tN, oN, qN, pN⟩).1), .int .i64 (take ⟨i, a, y, d, q, p, f, ph, m, r, v, g⟩ ⟨zN, tN, oN, qN, pN⟩).2]) ∧ Below w.heap.size w w' := by
  obtain ⟨W0, HW0⟩ : ∃ W, Hid ((((w.alloc (.cells #[.int .i64 i, .int .i64 a, .int .i64 y, .int .i64 d, .int .i64 q, .int .i64 p, .int .i64 f, .int .i64 ph, .int .i64 m, .int .i64 r, .int .i64 v, .bool g] 47)).alloc (.cells #[.int .i64 zN, .int .i64 tN, .int .i64 oN, .int .i64 qN, .int .i64 pN] 104)).alloc (.cells #[.int .i64 0, .int .i64 0, .int .i64 0, .int .i64 0, .int .i64 0, .int .i64 0, .int .i64 0, .int .i64 0, .int .i64 0, .int .i64 0, .int .i64 0, .bool false] 47)) = W) := ⟨_, Lib.hid rfl⟩
  have HBW : Hid (Below w.heap.size w W0) := Lib.hid (by rw [← HW0.out]; exact (((Below.refl _ _).alloc (by simp) _).alloc (by simp; try omega) _).alloc (by simp; try omega) _)
  have HX0 : Hid (∀ W, Below W0.heap.size W0 W → W.heap[w.heap.size]? = some (.cells #[.int .i64 i, .int .i64 a, .int .i64 y, .int .i64 d, .int .i64 q, .int .i64 p, .int .i64 f, .int .i64 ph, .int .i64 m, .int .i64 r, .int .i64 v, .bool g] 47 (0, 0))) := Lib.hid (fun W hb => (hb.block _ (by rw [← HW0.out]; simp; try omega)).trans (by rw [← HW0.out]; refine (Below.heap_alloc _ _ _ (by simp; try omega)).trans ?_; refine (Below.heap_alloc _ _ _ (by simp; try omega)).trans ?_; have := heap_alloc_new w (.cells #[.int .i64 i, .int .i64 a, .int .i64 y, .int .i64 d, .int .i64 q, .int .i64 p, .int .i64 f, .int .i64 ph, .int .i64 m, .int .i64 r, .int .i64 v, .bool g] 47); exact this))
  have HX1 : Hid (∀ W, Below W0.heap.size W0 W → W.heap[w.heap.size + 1]? = some (.cells #[.int .i64 zN, .int .i64 tN, .int .i64 oN, .int .i64 qN, .int .i64 pN] 104 (0, 0))) := Lib.hid (fun W hb => (hb.block _ (by rw [← HW0.out]; simp; try omega)).trans (by rw [← HW0.out]; refine (Below.heap_alloc _ _ _ (by simp; try omega)).trans ?_; have := heap_alloc_new (w.alloc (.cells #[.int .i64 i, .int .i64 a, .int .i64 y, .int .i64 d, .int .i64 q, .int .i64 p, .int .i64 f, .int .i64 ph, .int .i64 m, .int .i64 r, .int .i64 v, .bool g] 47)) (.cells #[.int .i64 zN, .int .i64 tN, .int .i64 oN, .int .i64 qN, .int .i64 pN] 104); simp only [World.size_alloc] at this; exact this))
  have HX2 : Hid (∀ W, Below W0.heap.size W0 W → W.heap[w.heap.size + 1 + 1]? = some (.cells #[.int .i64 0, .int .i64 0, .int .i64 0, .int .i64 0, .int .i64 0, .int .i64 0, .int .i64 0, .int .i64 0, .int .i64 0, .int .i64 0, .int .i64 0, .bool false] 47 (0, 0))) := Lib.hid (fun W hb => (hb.block _ (by rw [← HW0.out]; simp; try omega)).trans (by rw [← HW0.out]; have := heap_alloc_new ((w.alloc (.cells #[.int .i64 i, .int .i64 a, .int .i64 y, .int .i64 d, .int .i64 q, .int .i64 p, .int .i64 f, .int .i64 ph, .int .i64 m, .int .i64 r, .int .i64 v, .bool g] 47)).alloc (.cells #[.int .i64 zN, .int .i64 tN, .int .i64 oN, .int .i64 qN, .int .i64 pN] 104)) (.cells #[.int .i64 0, .int .i64 0, .int .i64 0, .int .i64 0, .int .i64 0, .int .i64 0, .int .i64 0, .int .i64 0, .int .i64 0, .int .i64 0, .int .i64 0, .bool false] 47); simp only [World.size_alloc] at this; exact this))
  have HF := Lib.hid hf
  have HFN : Hid ((⟨6, oN, 0, 0, 0, qN, pN, 0, 0, 0, false, zN, tN⟩ : rec.Rc).fine) := Lib.hid (by obtain ⟨g1, g2, g3, g4, g5⟩ := hn; exact ⟨by simp [frame.inR], g3, rec.in0, rec.in0, rec.in0, g4, g5, rec.in0, rec.in0, rec.in0, g1, g2⟩)
  obtain ⟨c, HC⟩ : ∃ x, Hid (right ⟨i, a, y, d, q, p, f, ph, m, r, v, g⟩ = x) := ⟨_, Lib.hid rfl⟩
  obtain ⟨nok, HNO⟩ : ∃ x, Hid (rec.right ⟨6, oN, 0, 0, 0, qN, pN, 0, 0, 0, false, zN, tN⟩ = x) := ⟨_, Lib.hid rfl⟩
  have HN0 : Hid (noteOk ⟨zN, tN, oN, qN, pN⟩ = nok) := Lib.hid HNO.out
  obtain ⟨u, HU⟩ : ∃ u, Hid (take ⟨i, a, y, d, q, p, f, ph, m, r, v, g⟩ ⟨zN, tN, oN, qN, pN⟩ = u) := ⟨_, Lib.hid rfl⟩
  rw [HU.out]
  clear hf hn
  go_enter Try.func68, Try.ntmps68
  go_upto_region 1 with fail
  rw [HW0.out]
  obtain ⟨k_0, k_1, k_2, k_3, k_4, k_5, k_6, k_7, k_8, k_9, k_10, k_11⟩ := cells12 (HX0.out W0 (Below.refl _ _))
  go_wp2_with fail
  refine Calls.mono (right_is i a y d q p f ph m r v g HF.out HC.out _) ?_
  rintro e1 W1 ⟨rfl, hb⟩
  have HB0_1 : Hid (Below W0.heap.size W0 W1) := Lib.hid (hb)
  clear hb
  clear k_0 k_1 k_2 k_3 k_4 k_5 k_6 k_7 k_8 k_9 k_10 k_11
  rcases c with _ | _
  · have hu : u = (⟨i, a, y, d, q, p, f, ph, m, r, v, g⟩, 1) := by rw [← HU.out]; unfold take; rw [HC.out]; simp
    subst hu
    clear HU
    obtain ⟨k_0, k_1, k_2, k_3, k_4, k_5, k_6, k_7, k_8, k_9, k_10, k_11⟩ := cells12 (HX0.out W1 HB0_1.out)
    have hwh : World.whole W1 (w.heap.size + 1 + 1) 12 47 := whole_of (HX2.out W1 HB0_1.out) rfl
    go_wp2_with (refine wpList_store_whole 47 (.tmp 4) (.tmp 22) (w.heap.size + 1 + 1) 12 _ 47 (by rfl) (by rfl) hwh (by rfl) (by kernel_rfl) (by kernel_rfl) ?_)
    obtain ⟨v0, v1, v2, v3, v4, v5, v6, v7, v8, v9, v10, v11⟩ := cells12 (setAll_self (vs := #[.int .i64 i, .int .i64 a, .int .i64 y, .int .i64 d, .int .i64 q, .int .i64 p, .int .i64 f, .int .i64 ph, .int .i64 m, .int .i64 r, .int .i64 v, .bool g]) hwh rfl)
    exact bodyPost_ret (v := .tuple #[.agg #[.int .i64 i, .int .i64 a, .int .i64 y, .int .i64 d, .int .i64 q, .int .i64 p, .int .i64 f, .int .i64 ph, .int .i64 m, .int .i64 r, .int .i64 v, .bool g], .int .i64 1]) (by simp [results, Try.results68, go_sem, v0, v1, v2, v3, v4, v5, v6, v7, v8, v9, v10, v11]) rfl ⟨rfl, setAll_below (HBW.out.trans (HB0_1.out.mono HBW.out.size)) (by omega)⟩
  · obtain ⟨k_0, k_1, k_2, k_3, k_4, k_5, k_6, k_7, k_8, k_9, k_10, k_11⟩ := cells12 (HX0.out W1 HB0_1.out)
    obtain ⟨n_0, n_1, n_2, n_3, n_4⟩ := cells5 (HX1.out W1 HB0_1.out)
    rcases eq_cases oN i with ⟨HEI, he0, hf0⟩ | ⟨HEI, he0, hf0⟩
    · obtain rfl : oN = i := HEI.out
      go_wp2_with fail
      refine Calls.mono (rec.ofNote_any _ _ _ _ _ _) ?_
      rintro e2 W2 ⟨rfl, hb⟩
      have HB0_2 : Hid (Below W0.heap.size W0 W2) := Lib.hid (HB0_1.out.trans ((hb : Below W1.heap.size W1 W2).mono HB0_1.out.size))
      have HB1_2 : Hid (Below W1.heap.size W1 W2) := Lib.hid (hb)
      clear hb
      clear k_0 k_1 k_2 k_3 k_4 k_5 k_6 k_7 k_8 k_9 k_10 k_11 n_0 n_1 n_2 n_3 n_4
      go_wp2_with fail
      refine Calls.mono (rec.right_is 6 _ 0 0 0 qN pN 0 0 0 false zN tN HFN.out HNO.out _) ?_
      rintro e3 W3 ⟨rfl, hb⟩
      have HB0_3 : Hid (Below W0.heap.size W0 W3) := Lib.hid (HB0_2.out.trans ((hb : Below W2.heap.size W2 W3).mono HB0_2.out.size))
      have HB1_3 : Hid (Below W1.heap.size W1 W3) := Lib.hid (HB1_2.out.trans ((hb : Below W2.heap.size W2 W3).mono HB1_2.out.size))
      have HB2_3 : Hid (Below W2.heap.size W2 W3) := Lib.hid (hb)
      clear hb
      rcases nok with _ | _
      · have hu : u = (⟨oN, a, y, d, q, p, f, ph, m, r, v, g⟩, 1) := by rw [← HU.out]; unfold take; rw [HC.out, HN0.out]; simp
        subst hu
        clear HU
        obtain ⟨k_0, k_1, k_2, k_3, k_4, k_5, k_6, k_7, k_8, k_9, k_10, k_11⟩ := cells12 (HX0.out W3 HB0_3.out)
        have hwh : World.whole W3 (w.heap.size + 1 + 1) 12 47 := whole_of (HX2.out W3 HB0_3.out) rfl
        go_wp2_with (refine wpList_store_whole 47 (.tmp 4) (.tmp 22) (w.heap.size + 1 + 1) 12 _ 47 (by rfl) (by rfl) hwh (by rfl) (by kernel_rfl) (by kernel_rfl) ?_)
        obtain ⟨v0, v1, v2, v3, v4, v5, v6, v7, v8, v9, v10, v11⟩ := cells12 (setAll_self (vs := #[.int .i64 oN, .int .i64 a, .int .i64 y, .int .i64 d, .int .i64 q, .int .i64 p, .int .i64 f, .int .i64 ph, .int .i64 m, .int .i64 r, .int .i64 v, .bool g]) hwh rfl)
        exact bodyPost_ret (v := .tuple #[.agg #[.int .i64 oN, .int .i64 a, .int .i64 y, .int .i64 d, .int .i64 q, .int .i64 p, .int .i64 f, .int .i64 ph, .int .i64 m, .int .i64 r, .int .i64 v, .bool g], .int .i64 1]) (by simp [results, Try.results68, go_sem, v0, v1, v2, v3, v4, v5, v6, v7, v8, v9, v10, v11]) rfl ⟨rfl, setAll_below (HBW.out.trans (HB0_3.out.mono HBW.out.size)) (by omega)⟩
      · have hr := right_iff.1 HC.out
        unfold Rightly at hr
        simp only at hr
        have hm := HF.out
        simp only [Or.fine, frame.inR] at hm
        have hqf : -9223372036854775808 ≤ q - f ∧ q - f ≤ 9223372036854775807 := by omega
        clear hr hm
        obtain ⟨cc, HK⟩ : ∃ x, Hid (can ⟨oN, a, y, d, q, p, f, ph, m, r, v, g⟩ ⟨zN, tN, oN, qN, pN⟩ = x) := ⟨_, Lib.hid rfl⟩
        obtain ⟨k_0, k_1, k_2, k_3, k_4, k_5, k_6, k_7, k_8, k_9, k_10, k_11⟩ := cells12 (HX0.out W3 HB0_3.out)
        obtain ⟨n_0, n_1, n_2, n_3, n_4⟩ := cells5 (HX1.out W3 HB0_3.out)
        go_wp2_with fail
        refine Calls.mono (can_is oN a y d q p f ph m r v g zN tN oN qN pN hqf HK.out _) ?_
        rintro e4 W4 ⟨rfl, hb⟩
        have HB0_4 : Hid (Below W0.heap.size W0 W4) := Lib.hid (HB0_3.out.trans ((hb : Below W3.heap.size W3 W4).mono HB0_3.out.size))
        have HB1_4 : Hid (Below W1.heap.size W1 W4) := Lib.hid (HB1_3.out.trans ((hb : Below W3.heap.size W3 W4).mono HB1_3.out.size))
        have HB2_4 : Hid (Below W2.heap.size W2 W4) := Lib.hid (HB2_3.out.trans ((hb : Below W3.heap.size W3 W4).mono HB2_3.out.size))
        have HB3_4 : Hid (Below W3.heap.size W3 W4) := Lib.hid (hb)
        clear hb
        clear k_0 k_1 k_2 k_3 k_4 k_5 k_6 k_7 k_8 k_9 k_10 k_11 n_0 n_1 n_2 n_3 n_4
        rcases cc with _ | _
        · have hu : u = (⟨oN, a, y, d, q, p, f, ph, m, r, v, g⟩, 8) := by rw [← HU.out, take_can HC.out HN0.out rfl, HK.out]; simp
          subst hu
          clear HU
          obtain ⟨k_0, k_1, k_2, k_3, k_4, k_5, k_6, k_7, k_8, k_9, k_10, k_11⟩ := cells12 (HX0.out W4 HB0_4.out)
          have hwh : World.whole W4 (w.heap.size + 1 + 1) 12 47 := whole_of (HX2.out W4 HB0_4.out) rfl
          go_wp2_with (refine wpList_store_whole 47 (.tmp 4) (.tmp 27) (w.heap.size + 1 + 1) 12 _ 47 (by rfl) (by rfl) hwh (by rfl) (by kernel_rfl) (by kernel_rfl) ?_)
          obtain ⟨v0, v1, v2, v3, v4, v5, v6, v7, v8, v9, v10, v11⟩ := cells12 (setAll_self (vs := #[.int .i64 oN, .int .i64 a, .int .i64 y, .int .i64 d, .int .i64 q, .int .i64 p, .int .i64 f, .int .i64 ph, .int .i64 m, .int .i64 r, .int .i64 v, .bool g]) hwh rfl)
          exact bodyPost_ret (v := .tuple #[.agg #[.int .i64 oN, .int .i64 a, .int .i64 y, .int .i64 d, .int .i64 q, .int .i64 p, .int .i64 f, .int .i64 ph, .int .i64 m, .int .i64 r, .int .i64 v, .bool g], .int .i64 8]) (by simp [results, Try.results68, go_sem, v0, v1, v2, v3, v4, v5, v6, v7, v8, v9, v10, v11]) rfl ⟨rfl, setAll_below (HBW.out.trans (HB0_4.out.mono HBW.out.size)) (by omega)⟩
        · have hti := told_in HC.out HN0.out HK.out HF.out
          simp only at hti
          obtain ⟨tt, HT⟩ : ∃ x, Hid (told ⟨oN, a, y, d, q, p, f, ph, m, r, v, g⟩ ⟨zN, tN, oN, qN, pN⟩ = x) := ⟨_, Lib.hid rfl⟩
          obtain ⟨i', a', y', d', q', p', f', ph', m', r', v', g'⟩ := tt
          have hu : u = (⟨i', a', y', d', q', p', f', ph', m', r', v', g'⟩, 0) := by rw [← HU.out, take_can HC.out HN0.out rfl, HK.out, HT.out]; simp
          subst hu
          clear HU
          obtain ⟨k_0, k_1, k_2, k_3, k_4, k_5, k_6, k_7, k_8, k_9, k_10, k_11⟩ := cells12 (HX0.out W4 HB0_4.out)
          obtain ⟨n_0, n_1, n_2, n_3, n_4⟩ := cells5 (HX1.out W4 HB0_4.out)
          go_wp2_with fail
          refine Calls.mono (told_is oN a y d q p f ph m r v g zN tN oN qN pN hti HT.out _) ?_
          rintro e5 W5 ⟨rfl, hb⟩
          have HB0_5 : Hid (Below W0.heap.size W0 W5) := Lib.hid (HB0_4.out.trans ((hb : Below W4.heap.size W4 W5).mono HB0_4.out.size))
          have HB1_5 : Hid (Below W1.heap.size W1 W5) := Lib.hid (HB1_4.out.trans ((hb : Below W4.heap.size W4 W5).mono HB1_4.out.size))
          have HB2_5 : Hid (Below W2.heap.size W2 W5) := Lib.hid (HB2_4.out.trans ((hb : Below W4.heap.size W4 W5).mono HB2_4.out.size))
          have HB3_5 : Hid (Below W3.heap.size W3 W5) := Lib.hid (HB3_4.out.trans ((hb : Below W4.heap.size W4 W5).mono HB3_4.out.size))
          have HB4_5 : Hid (Below W4.heap.size W4 W5) := Lib.hid (hb)
          clear hb
          clear k_0 k_1 k_2 k_3 k_4 k_5 k_6 k_7 k_8 k_9 k_10 k_11 n_0 n_1 n_2 n_3 n_4
          have hwh : World.whole W5 (w.heap.size + 1 + 1) 12 47 := whole_of (HX2.out W5 HB0_5.out) rfl
          go_wp2_with (refine wpList_store_whole 47 (.tmp 4) (.tmp 30) (w.heap.size + 1 + 1) 12 _ 47 (by rfl) (by rfl) hwh (by rfl) (by kernel_rfl) (by kernel_rfl) ?_)
          obtain ⟨v0, v1, v2, v3, v4, v5, v6, v7, v8, v9, v10, v11⟩ := cells12 (setAll_self (vs := #[.int .i64 i', .int .i64 a', .int .i64 y', .int .i64 d', .int .i64 q', .int .i64 p', .int .i64 f', .int .i64 ph', .int .i64 m', .int .i64 r', .int .i64 v', .bool g']) hwh rfl)
          exact bodyPost_ret (v := .tuple #[.agg #[.int .i64 i', .int .i64 a', .int .i64 y', .int .i64 d', .int .i64 q', .int .i64 p', .int .i64 f', .int .i64 ph', .int .i64 m', .int .i64 r', .int .i64 v', .bool g'], .int .i64 0]) (by simp [results, Try.results68, go_sem, v0, v1, v2, v3, v4, v5, v6, v7, v8, v9, v10, v11]) rfl ⟨rfl, setAll_below (HBW.out.trans (HB0_5.out.mono HBW.out.size)) (by omega)⟩
    · clear n_0 n_1 n_2 n_3 n_4
      obtain ⟨n_0, n_1, n_2, n_3, n_4⟩ := cells5 (HX1.out W1 HB0_1.out)
      have hu : u = (⟨i, a, y, d, q, p, f, ph, m, r, v, g⟩, 1) := by rw [← HU.out]; unfold take; rw [HC.out]; simp [HEI.out]
      subst hu
      clear HU
      clear k_0 k_1 k_2 k_3 k_4 k_5 k_6 k_7 k_8 k_9 k_10 k_11
      obtain ⟨k_0, k_1, k_2, k_3, k_4, k_5, k_6, k_7, k_8, k_9, k_10, k_11⟩ := cells12 (HX0.out W1 HB0_1.out)
      have hwh : World.whole W1 (w.heap.size + 1 + 1) 12 47 := whole_of (HX2.out W1 HB0_1.out) rfl
      go_wp2_with (refine wpList_store_whole 47 (.tmp 4) (.tmp 22) (w.heap.size + 1 + 1) 12 _ 47 (by rfl) (by rfl) hwh (by rfl) (by kernel_rfl) (by kernel_rfl) ?_)
      obtain ⟨v0, v1, v2, v3, v4, v5, v6, v7, v8, v9, v10, v11⟩ := cells12 (setAll_self (vs := #[.int .i64 i, .int .i64 a, .int .i64 y, .int .i64 d, .int .i64 q, .int .i64 p, .int .i64 f, .int .i64 ph, .int .i64 m, .int .i64 r, .int .i64 v, .bool g]) hwh rfl)
      exact bodyPost_ret (v := .tuple #[.agg #[.int .i64 i, .int .i64 a, .int .i64 y, .int .i64 d, .int .i64 q, .int .i64 p, .int .i64 f, .int .i64 ph, .int .i64 m, .int .i64 r, .int .i64 v, .bool g], .int .i64 1]) (by simp [results, Try.results68, go_sem, v0, v1, v2, v3, v4, v5, v6, v7, v8, v9, v10, v11]) rfl ⟨rfl, setAll_below (HBW.out.trans (HB0_1.out.mono HBW.out.size)) (by omega)⟩

end Go.Proofs.Ytiljgndgffoloab.order
end
section
namespace Go.Proofs.Ytiljgndgffoloab.cell
open Go.RowKit Go.Proofs.Ytiljgndgffoloab
open Go.Proofs.Ytiljgndgffoloab.order (eq_cases)
attribute [local go_sem] undef
attribute [local go_sem ↓] Go.wp_at_zero Go.wp_at_succ
set_option linter.unusedVariables false
set_option linter.unusedSimpArgs false
set_option maxRecDepth 20000
set_option maxHeartbeats 8000000

theorem covers_any (al as_ an bl bs bn : Int) (w : World) : Calls Try.prog 16 #[.agg #[.int .i64 al, .int .i64 as_, .int .i64 an], .agg #[.int .i64 bl, .int .i64 bs, .int .i64 bn]] w fun e w' => e = .returned (.bool (covers ⟨al, as_, an⟩ ⟨bl, bs, bn⟩)) ∧ Below w.heap.size w w' := by
  obtain ⟨W0, HW0⟩ : ∃ W, Hid (((w.alloc (.cells #[.int .i64 al, .int .i64 as_, .int .i64 an] 43)).alloc (.cells #[.int .i64 bl, .int .i64 bs, .int .i64 bn] 43)) = W) := ⟨_, Lib.hid rfl⟩
  have HBw0 : Hid (Below w.heap.size w W0) := Lib.hid (by rw [← HW0.out]; exact ((Below.refl _ _).alloc (by simp) _).alloc (by simp; try omega) _)
  have HX0_0 : Hid (∀ W, Below W0.heap.size W0 W → W.heap[w.heap.size]? = some (.cells #[.int .i64 al, .int .i64 as_, .int .i64 an] 43 (0, 0))) := Lib.hid (fun W hb => (hb.block _ (by rw [← HW0.out]; simp; try omega)).trans (by rw [← HW0.out]; refine (Below.heap_alloc _ _ _ (by simp; try omega)).trans ?_; have := heap_alloc_new w (.cells #[.int .i64 al, .int .i64 as_, .int .i64 an] 43); exact this))
  have HX1_0 : Hid (∀ W, Below W0.heap.size W0 W → W.heap[w.heap.size + 1]? = some (.cells #[.int .i64 bl, .int .i64 bs, .int .i64 bn] 43 (0, 0))) := Lib.hid (fun W hb => (hb.block _ (by rw [← HW0.out]; simp; try omega)).trans (by rw [← HW0.out]; have := heap_alloc_new (w.alloc (.cells #[.int .i64 al, .int .i64 as_, .int .i64 an] 43)) (.cells #[.int .i64 bl, .int .i64 bs, .int .i64 bn] 43); simp only [World.size_alloc] at this; exact this))
  obtain ⟨u, HU⟩ : ∃ u, Hid (covers ⟨al, as_, an⟩ ⟨bl, bs, bn⟩ = u) := ⟨_, Lib.hid rfl⟩
  rw [HU.out]
  go_enter Try.func16, Try.ntmps16
  go_upto_region 1 with fail
  rw [HW0.out]
  by_cases hlz1 : al < bl
  · have HLz1 := Lib.hid hlz1
    have hu : u = false := by
      rw [← HU.out]
      have x0 := HLz1.out
      simp only [covers, decide_eq_true_eq, decide_eq_false_iff_not]
      omega
    subst hu
    clear HU
    obtain ⟨k2_0, k2_1, k2_2⟩ := cells3 (HX0_0.out W0 (Below.refl _ _))
    obtain ⟨k3_0, k3_1, k3_2⟩ := cells3 (HX1_0.out W0 (Below.refl _ _))
    go_wp2_with fail
    go_ret
    exact ⟨rec.retB (by first | rfl | (simp; done) | (simp; omega)), HBw0.out⟩
  · have HLz1 := Lib.hid hlz1
    have hnz1 : bl ≤ al := by omega
    clear hlz1
    by_cases hlz2 : as_ < bs
    · have HLz2 := Lib.hid hlz2
      have hu : u = false := by
        rw [← HU.out]
        have x0 := HLz1.out
        have x1 := HLz2.out
        simp only [covers, decide_eq_true_eq, decide_eq_false_iff_not]
        omega
      subst hu
      clear HU
      obtain ⟨k2_0, k2_1, k2_2⟩ := cells3 (HX0_0.out W0 (Below.refl _ _))
      obtain ⟨k3_0, k3_1, k3_2⟩ := cells3 (HX1_0.out W0 (Below.refl _ _))
      go_wp2_with fail
      go_ret
      exact ⟨rec.retB (by first | rfl | (simp; done) | (simp; omega)), HBw0.out⟩
    · have HLz2 := Lib.hid hlz2
      have hnz2 : bs ≤ as_ := by omega
      clear hlz2
      by_cases hlz3 : an < bn
      · have HLz3 := Lib.hid hlz3
        have hu : u = false := by
          rw [← HU.out]
          have x0 := HLz1.out
          have x1 := HLz2.out
          have x2 := HLz3.out
          simp only [covers, decide_eq_true_eq, decide_eq_false_iff_not]
          omega
        subst hu
        clear HU
        obtain ⟨k2_0, k2_1, k2_2⟩ := cells3 (HX0_0.out W0 (Below.refl _ _))
        obtain ⟨k3_0, k3_1, k3_2⟩ := cells3 (HX1_0.out W0 (Below.refl _ _))
        go_wp2_with fail
        go_ret
        exact ⟨rec.retB (by first | rfl | (simp; done) | (simp; omega)), HBw0.out⟩
      · have HLz3 := Lib.hid hlz3
        have hnz3 : bn ≤ an := by omega
        clear hlz3
        have hu : u = true := by
          rw [← HU.out]
          have x0 := HLz1.out
          have x1 := HLz2.out
          have x2 := HLz3.out
          simp only [covers, decide_eq_true_eq, decide_eq_false_iff_not]
          omega
        subst hu
        clear HU
        obtain ⟨k2_0, k2_1, k2_2⟩ := cells3 (HX0_0.out W0 (Below.refl _ _))
        obtain ⟨k3_0, k3_1, k3_2⟩ := cells3 (HX1_0.out W0 (Below.refl _ _))
        go_wp2_with fail
        go_ret
        exact ⟨rec.retB (by first | rfl | (simp; done) | (simp; omega)), HBw0.out⟩
theorem covers_is (al as_ an bl bs bn : Int) {b : Bool} (h : covers ⟨al, as_, an⟩ ⟨bl, bs, bn⟩ = b) (w : World) : Calls Try.prog 16 #[.agg #[.int .i64 al, .int .i64 as_, .int .i64 an], .agg #[.int .i64 bl, .int .i64 bs, .int .i64 bn]] w fun e w' => e = .returned (.bool b) ∧ Below w.heap.size w w' := by
  have key := covers_any al as_ an bl bs bn w
  rw [h] at key
  exact key


end Go.Proofs.Ytiljgndgffoloab.cell
end
