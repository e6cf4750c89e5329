/-
  The contract of the document's own answer for layer 7: Take.
-/
import Derived.Test.YtfnapckjccjjjaaOrdRef1
import Derived.Test.YtfnapckjccjjjaaRecRefN
import Derived.Deep.DeepCutAuto
namespace Go.Proofs.Ytfnapckjccjjjaa.order
open Go.RowKit Go.Proofs.Ytfnapckjccjjjaa
set_option linter.unusedVariables false
set_option linter.unusedSimpArgs false
set_option maxRecDepth 20000
set_option maxHeartbeats 8000000

theorem rtake_any (i a y d q p f ph m r v : Int) (g : Bool) (zN tN oN qN pN : Int) (hf : (⟨i, a, y, d, q, p, f, ph, m, r, v, g⟩ : Or).fine) (hn : frame.inR zN ∧ frame.inR tN ∧ frame.inR oN ∧ frame.inR qN ∧ frame.inR pN) (w : World) : Calls Try.prog 14 #[.agg #[.int .i64 i, .int .i64 a, .int .i64 y, .int .i64 d, .int .i64 q, .int .i64 p, .int .i64 f, .int .i64 ph, .int .i64 m, .int .i64 r, .int .i64 v, .bool g], .agg #[.int .i64 zN, .int .i64 tN, .int .i64 oN, .int .i64 qN, .int .i64 pN]] w fun e w' => e = .returned (.tuple #[.agg (oc (take ⟨i, a, y, d, q, p, f, ph, m, r, v, g⟩ ⟨zN, tN, oN, qN, pN⟩).1), .int .i64 (take ⟨i, a, y, d, q, p, f, ph, m, r, v, g⟩ ⟨zN, tN, oN, qN, pN⟩).2]) ∧ Below w.heap.size w w' := by
  obtain ⟨W0, HW0⟩ : ∃ W, Hid ((((w.alloc (.cells #[.int .i64 i, .int .i64 a, .int .i64 y, .int .i64 d, .int .i64 q, .int .i64 p, .int .i64 f, .int .i64 ph, .int .i64 m, .int .i64 r, .int .i64 v, .bool g] 23)).alloc (.cells #[.int .i64 zN, .int .i64 tN, .int .i64 oN, .int .i64 qN, .int .i64 pN] 27)).alloc (.cells #[.int .i64 0, .int .i64 0, .int .i64 0, .int .i64 0, .int .i64 0, .int .i64 0, .int .i64 0, .int .i64 0, .int .i64 0, .int .i64 0, .int .i64 0, .bool false] 23)) = W) := ⟨_, Lib.hid rfl⟩
  have HBW : Hid (Below w.heap.size w W0) := Lib.hid (by rw [← HW0.out]; exact (((Below.refl _ _).alloc (by simp) _).alloc (by simp; try omega) _).alloc (by simp; try omega) _)
  have HX0 : Hid (∀ W, Below W0.heap.size W0 W → W.heap[w.heap.size]? = some (.cells #[.int .i64 i, .int .i64 a, .int .i64 y, .int .i64 d, .int .i64 q, .int .i64 p, .int .i64 f, .int .i64 ph, .int .i64 m, .int .i64 r, .int .i64 v, .bool g] 23 (0, 0))) := Lib.hid (fun W hb => (hb.block _ (by rw [← HW0.out]; simp; try omega)).trans (by rw [← HW0.out]; refine (Below.heap_alloc _ _ _ (by simp; try omega)).trans ?_; refine (Below.heap_alloc _ _ _ (by simp; try omega)).trans ?_; have := heap_alloc_new w (.cells #[.int .i64 i, .int .i64 a, .int .i64 y, .int .i64 d, .int .i64 q, .int .i64 p, .int .i64 f, .int .i64 ph, .int .i64 m, .int .i64 r, .int .i64 v, .bool g] 23); exact this))
  have HX1 : Hid (∀ W, Below W0.heap.size W0 W → W.heap[w.heap.size + 1]? = some (.cells #[.int .i64 zN, .int .i64 tN, .int .i64 oN, .int .i64 qN, .int .i64 pN] 27 (0, 0))) := Lib.hid (fun W hb => (hb.block _ (by rw [← HW0.out]; simp; try omega)).trans (by rw [← HW0.out]; refine (Below.heap_alloc _ _ _ (by simp; try omega)).trans ?_; have := heap_alloc_new (w.alloc (.cells #[.int .i64 i, .int .i64 a, .int .i64 y, .int .i64 d, .int .i64 q, .int .i64 p, .int .i64 f, .int .i64 ph, .int .i64 m, .int .i64 r, .int .i64 v, .bool g] 23)) (.cells #[.int .i64 zN, .int .i64 tN, .int .i64 oN, .int .i64 qN, .int .i64 pN] 27); simp only [World.size_alloc] at this; exact this))
  have HX2 : Hid (∀ W, Below W0.heap.size W0 W → W.heap[w.heap.size + 1 + 1]? = some (.cells #[.int .i64 0, .int .i64 0, .int .i64 0, .int .i64 0, .int .i64 0, .int .i64 0, .int .i64 0, .int .i64 0, .int .i64 0, .int .i64 0, .int .i64 0, .bool false] 23 (0, 0))) := Lib.hid (fun W hb => (hb.block _ (by rw [← HW0.out]; simp; try omega)).trans (by rw [← HW0.out]; have := heap_alloc_new ((w.alloc (.cells #[.int .i64 i, .int .i64 a, .int .i64 y, .int .i64 d, .int .i64 q, .int .i64 p, .int .i64 f, .int .i64 ph, .int .i64 m, .int .i64 r, .int .i64 v, .bool g] 23)).alloc (.cells #[.int .i64 zN, .int .i64 tN, .int .i64 oN, .int .i64 qN, .int .i64 pN] 27)) (.cells #[.int .i64 0, .int .i64 0, .int .i64 0, .int .i64 0, .int .i64 0, .int .i64 0, .int .i64 0, .int .i64 0, .int .i64 0, .int .i64 0, .int .i64 0, .bool false] 23); simp only [World.size_alloc] at this; exact this))
  have HF := Lib.hid hf
  have HFN : Hid ((⟨6, oN, 0, 0, 0, qN, pN, 0, 0, 0, false, zN, tN⟩ : rec.Rc).fine) := Lib.hid (by obtain ⟨g1, g2, g3, g4, g5⟩ := hn; exact ⟨by simp [frame.inR], g3, rec.in0, rec.in0, rec.in0, g4, g5, rec.in0, rec.in0, rec.in0, g1, g2⟩)
  obtain ⟨c, HC⟩ : ∃ x, Hid (right ⟨i, a, y, d, q, p, f, ph, m, r, v, g⟩ = x) := ⟨_, Lib.hid rfl⟩
  obtain ⟨nok, HNO⟩ : ∃ x, Hid (rec.right ⟨6, oN, 0, 0, 0, qN, pN, 0, 0, 0, false, zN, tN⟩ = x) := ⟨_, Lib.hid rfl⟩
  have HN0 : Hid (noteOk ⟨zN, tN, oN, qN, pN⟩ = nok) := Lib.hid HNO.out
  obtain ⟨u, HU⟩ : ∃ u, Hid (take ⟨i, a, y, d, q, p, f, ph, m, r, v, g⟩ ⟨zN, tN, oN, qN, pN⟩ = u) := ⟨_, Lib.hid rfl⟩
  rw [HU.out]
  clear hf hn
  go_enter Try.func14, Try.ntmps14
  go_wp2_with fail
  refine Calls.mono (rright_is i a y d q p f ph m r v g HF.out HC.out _) ?_
  rintro e1 W1 ⟨rfl, hb⟩
  rw [HW0.out] at hb
  have HB0_1 : Hid (Below W0.heap.size W0 W1) := Lib.hid (hb)
  clear hb
  rcases c with _ | _
  · have hu : u = (⟨i, a, y, d, q, p, f, ph, m, r, v, g⟩, 1) := by rw [← HU.out]; unfold take; rw [HC.out]; simp
    subst hu
    clear HU
    obtain ⟨k_0, k_1, k_2, k_3, k_4, k_5, k_6, k_7, k_8, k_9, k_10, k_11⟩ := cells12 (HX0.out W1 HB0_1.out)
    have hwh : World.whole W1 (w.heap.size + 1 + 1) 12 23 := whole_of (HX2.out W1 HB0_1.out) rfl
    go_upto_region 2 with fail
    go_wp2_with (refine wpList_store_whole 23 (.tmp 4) (.tmp 26) (w.heap.size + 1 + 1) 12 _ 23 (by rfl) (by rfl) hwh (by rfl) (by kernel_rfl) (by kernel_rfl) ?_)
    obtain ⟨v0, v1, v2, v3, v4, v5, v6, v7, v8, v9, v10, v11⟩ := cells12 (setAll_self (vs := #[.int .i64 i, .int .i64 a, .int .i64 y, .int .i64 d, .int .i64 q, .int .i64 p, .int .i64 f, .int .i64 ph, .int .i64 m, .int .i64 r, .int .i64 v, .bool g]) hwh rfl)
    exact bodyPost_ret (v := .tuple #[.agg #[.int .i64 i, .int .i64 a, .int .i64 y, .int .i64 d, .int .i64 q, .int .i64 p, .int .i64 f, .int .i64 ph, .int .i64 m, .int .i64 r, .int .i64 v, .bool g], .int .i64 1]) (by simp [results, Try.results14, go_sem, v0, v1, v2, v3, v4, v5, v6, v7, v8, v9, v10, v11]) rfl ⟨rfl, setAll_below (HBW.out.trans (HB0_1.out.mono HBW.out.size)) (by omega)⟩
  · obtain ⟨k_0, k_1, k_2, k_3, k_4, k_5, k_6, k_7, k_8, k_9, k_10, k_11⟩ := cells12 (HX0.out W1 HB0_1.out)
    obtain ⟨n_0, n_1, n_2, n_3, n_4⟩ := cells5 (HX1.out W1 HB0_1.out)
    go_wp2_with fail
    refine Calls.mono (rec.rofNote_any zN tN oN qN pN _) ?_
    rintro e2 W2 ⟨rfl, hb⟩
    have HB0_2 : Hid (Below W0.heap.size W0 W2) := Lib.hid (HB0_1.out.trans ((hb : Below W1.heap.size W1 W2).mono HB0_1.out.size))
    have HB1_2 : Hid (Below W1.heap.size W1 W2) := Lib.hid (hb)
    clear hb
    clear k_0 k_1 k_2 k_3 k_4 k_5 k_6 k_7 k_8 k_9 k_10 k_11 n_0 n_1 n_2 n_3 n_4
    go_wp2_with fail
    refine Calls.mono (rec.rright_is 6 oN 0 0 0 qN pN 0 0 0 false zN tN HFN.out HNO.out _) ?_
    rintro e3 W3 ⟨rfl, hb⟩
    have HB0_3 : Hid (Below W0.heap.size W0 W3) := Lib.hid (HB0_2.out.trans ((hb : Below W2.heap.size W2 W3).mono HB0_2.out.size))
    have HB1_3 : Hid (Below W1.heap.size W1 W3) := Lib.hid (HB1_2.out.trans ((hb : Below W2.heap.size W2 W3).mono HB1_2.out.size))
    have HB2_3 : Hid (Below W2.heap.size W2 W3) := Lib.hid (hb)
    clear hb
    rcases nok with _ | _
    · have hu : u = (⟨i, a, y, d, q, p, f, ph, m, r, v, g⟩, 1) := by rw [← HU.out]; unfold take; rw [HC.out, HN0.out]; simp
      subst hu
      clear HU
      obtain ⟨k_0, k_1, k_2, k_3, k_4, k_5, k_6, k_7, k_8, k_9, k_10, k_11⟩ := cells12 (HX0.out W3 HB0_3.out)
      have hwh : World.whole W3 (w.heap.size + 1 + 1) 12 23 := whole_of (HX2.out W3 HB0_3.out) rfl
      go_upto_region 2 with fail
      go_wp2_with (refine wpList_store_whole 23 (.tmp 4) (.tmp 26) (w.heap.size + 1 + 1) 12 _ 23 (by rfl) (by rfl) hwh (by rfl) (by kernel_rfl) (by kernel_rfl) ?_)
      obtain ⟨v0, v1, v2, v3, v4, v5, v6, v7, v8, v9, v10, v11⟩ := cells12 (setAll_self (vs := #[.int .i64 i, .int .i64 a, .int .i64 y, .int .i64 d, .int .i64 q, .int .i64 p, .int .i64 f, .int .i64 ph, .int .i64 m, .int .i64 r, .int .i64 v, .bool g]) hwh rfl)
      exact bodyPost_ret (v := .tuple #[.agg #[.int .i64 i, .int .i64 a, .int .i64 y, .int .i64 d, .int .i64 q, .int .i64 p, .int .i64 f, .int .i64 ph, .int .i64 m, .int .i64 r, .int .i64 v, .bool g], .int .i64 1]) (by simp [results, Try.results14, go_sem, v0, v1, v2, v3, v4, v5, v6, v7, v8, v9, v10, v11]) rfl ⟨rfl, setAll_below (HBW.out.trans (HB0_3.out.mono HBW.out.size)) (by omega)⟩
    · rcases eq_cases oN i with ⟨HEI, he0, hf0⟩ | ⟨HEI, he0, hf0⟩
      · have hr := right_iff.1 HC.out
        unfold Rightly at hr
        simp only at hr
        have hm := HF.out
        simp only [Or.fine, frame.inR] at hm
        have h1 : IntKind.i64.wrap (q - f) = q - f := IntWalk.i64_in _ (by omega)
        have h3 : 0 ≤ f := by omega
        have h4 : f ≤ q := by omega
        have h5 : q ≤ 9223372036854775807 := by omega
        have h6 : m ≤ 9223372036854775807 := by omega
        have h7 : 0 ≤ m := by omega
        clear hr hm
        have HT := Lib.hid (take_own (right_iff.1 HC.out) HN0.out HEI.out)
        obtain ⟨k_0, k_1, k_2, k_3, k_4, k_5, k_6, k_7, k_8, k_9, k_10, k_11⟩ := cells12 (HX0.out W3 HB0_3.out)
        obtain ⟨n_0, n_1, n_2, n_3, n_4⟩ := cells5 (HX1.out W3 HB0_3.out)
        by_cases hp1 : ph = 1
        · subst hp1
          by_cases ht1 : tN = 1
          · subst ht1
            have hu : u = (⟨i, a, y, d, q, p, f, 2, m, r, v, g⟩, 0) := by rw [← HU.out, HT.out]; simp [done]
            subst hu
            clear HU HT
            have hlt : w.heap.size + 1 + 1 < W3.heap.size := by have := HB0_3.out.size; have e := HW0.out; subst e; simp at this; omega
            have hlt0 : w.heap.size < W3.heap.size := by omega
            have hlt1 : w.heap.size + 1 < W3.heap.size := by omega
            have hwh : World.whole (W3.alloc (.cells #[.int .i64 i, .int .i64 a, .int .i64 y, .int .i64 d, .int .i64 q, .int .i64 p, .int .i64 f, .int .i64 2, .int .i64 m, .int .i64 r, .int .i64 v, .bool g] 23)) (w.heap.size + 1 + 1) 12 23 := whole_of ((Below.heap_alloc _ _ _ hlt).trans (HX2.out W3 HB0_3.out)) rfl
            go_upto_region 9 with fail
            go_wp2_with (refine wpList_store_whole 23 (.tmp 4) (.tmp 45) (w.heap.size + 1 + 1) 12 _ 23 (by rfl) (by rfl) hwh (by rfl) (by kernel_rfl) (by kernel_rfl) ?_)
            obtain ⟨v0, v1, v2, v3, v4, v5, v6, v7, v8, v9, v10, v11⟩ := cells12 (setAll_self (vs := #[.int .i64 i, .int .i64 a, .int .i64 y, .int .i64 d, .int .i64 q, .int .i64 p, .int .i64 f, .int .i64 2, .int .i64 m, .int .i64 r, .int .i64 v, .bool g]) hwh rfl)
            exact bodyPost_ret (v := .tuple #[.agg #[.int .i64 i, .int .i64 a, .int .i64 y, .int .i64 d, .int .i64 q, .int .i64 p, .int .i64 f, .int .i64 2, .int .i64 m, .int .i64 r, .int .i64 v, .bool g], .int .i64 0]) (by simp [results, Try.results14, go_sem, v0, v1, v2, v3, v4, v5, v6, v7, v8, v9, v10, v11]) rfl ⟨rfl, setAll_below ((HBW.out.trans (HB0_3.out.mono HBW.out.size)).alloc (by omega) _) (by omega)⟩
          · have hu1 : (tN == 1) = false := by simpa using ht1
            have hv1 : (tN != 1) = true := by simpa using ht1
            have HT1 := Lib.hid ht1
            clear ht1
            by_cases ht2 : tN = 2
            · subst ht2
              have hu : u = (⟨i, a, y, d, q, p, f, 3, 0, 0, v, g⟩, 0) := by rw [← HU.out, HT.out]; simp [done, HT1.out]
              subst hu
              clear HU HT
              have hlt : w.heap.size + 1 + 1 < W3.heap.size := by have := HB0_3.out.size; have e := HW0.out; subst e; simp at this; omega
              have hlt0 : w.heap.size < W3.heap.size := by omega
              have hlt1 : w.heap.size + 1 < W3.heap.size := by omega
              have hwh : World.whole (W3.alloc (.cells #[.int .i64 i, .int .i64 a, .int .i64 y, .int .i64 d, .int .i64 q, .int .i64 p, .int .i64 f, .int .i64 3, .int .i64 0, .int .i64 0, .int .i64 v, .bool g] 23)) (w.heap.size + 1 + 1) 12 23 := whole_of ((Below.heap_alloc _ _ _ hlt).trans (HX2.out W3 HB0_3.out)) rfl
              go_upto_region 21 with fail
              go_wp2_with (refine wpList_store_whole 23 (.tmp 4) (.tmp 93) (w.heap.size + 1 + 1) 12 _ 23 (by rfl) (by rfl) hwh (by rfl) (by kernel_rfl) (by kernel_rfl) ?_)
              obtain ⟨v0, v1, v2, v3, v4, v5, v6, v7, v8, v9, v10, v11⟩ := cells12 (setAll_self (vs := #[.int .i64 i, .int .i64 a, .int .i64 y, .int .i64 d, .int .i64 q, .int .i64 p, .int .i64 f, .int .i64 3, .int .i64 0, .int .i64 0, .int .i64 v, .bool g]) hwh rfl)
              exact bodyPost_ret (v := .tuple #[.agg #[.int .i64 i, .int .i64 a, .int .i64 y, .int .i64 d, .int .i64 q, .int .i64 p, .int .i64 f, .int .i64 3, .int .i64 0, .int .i64 0, .int .i64 v, .bool g], .int .i64 0]) (by simp [results, Try.results14, go_sem, v0, v1, v2, v3, v4, v5, v6, v7, v8, v9, v10, v11]) rfl ⟨rfl, setAll_below ((HBW.out.trans (HB0_3.out.mono HBW.out.size)).alloc (by omega) _) (by omega)⟩
            · have hu2 : (tN == 2) = false := by simpa using ht2
              have hv2 : (tN != 2) = true := by simpa using ht2
              have HT2 := Lib.hid ht2
              clear ht2
              have hu : u = (⟨i, a, y, d, q, p, f, 1, m, r, v, g⟩, 8) := by rw [← HU.out, HT.out]; simp [done, HT1.out, HT2.out]
              subst hu
              clear HU HT
              have hlt : w.heap.size + 1 + 1 < W3.heap.size := by have := HB0_3.out.size; have e := HW0.out; subst e; simp at this; omega
              have hlt0 : w.heap.size < W3.heap.size := by omega
              have hlt1 : w.heap.size + 1 < W3.heap.size := by omega
              have hwh : World.whole (W3.alloc (.cells #[.int .i64 i, .int .i64 a, .int .i64 y, .int .i64 d, .int .i64 q, .int .i64 p, .int .i64 f, .int .i64 1, .int .i64 m, .int .i64 r, .int .i64 v, .bool g] 23)) (w.heap.size + 1 + 1) 12 23 := whole_of ((Below.heap_alloc _ _ _ hlt).trans (HX2.out W3 HB0_3.out)) rfl
              go_upto_region 32 with fail
              go_wp2_with (refine wpList_store_whole 23 (.tmp 4) (.tmp 149) (w.heap.size + 1 + 1) 12 _ 23 (by rfl) (by rfl) hwh (by rfl) (by kernel_rfl) (by kernel_rfl) ?_)
              obtain ⟨v0, v1, v2, v3, v4, v5, v6, v7, v8, v9, v10, v11⟩ := cells12 (setAll_self (vs := #[.int .i64 i, .int .i64 a, .int .i64 y, .int .i64 d, .int .i64 q, .int .i64 p, .int .i64 f, .int .i64 1, .int .i64 m, .int .i64 r, .int .i64 v, .bool g]) hwh rfl)
              exact bodyPost_ret (v := .tuple #[.agg #[.int .i64 i, .int .i64 a, .int .i64 y, .int .i64 d, .int .i64 q, .int .i64 p, .int .i64 f, .int .i64 1, .int .i64 m, .int .i64 r, .int .i64 v, .bool g], .int .i64 8]) (by simp [results, Try.results14, go_sem, v0, v1, v2, v3, v4, v5, v6, v7, v8, v9, v10, v11]) rfl ⟨rfl, setAll_below ((HBW.out.trans (HB0_3.out.mono HBW.out.size)).alloc (by omega) _) (by omega)⟩
        · have hp1' : (ph == 1) = false := by simpa using hp1
          have HP1 := Lib.hid hp1
          clear hp1
          by_cases hp2 : ph = 2
          · subst hp2
            by_cases ht4 : tN = 4
            · subst ht4
              have hu : u = (⟨i, a, y, d, q, p, f, 3, 0, 0, v, g⟩, 0) := by rw [← HU.out, HT.out]; simp [done]
              subst hu
              clear HU HT
              have hlt : w.heap.size + 1 + 1 < W3.heap.size := by have := HB0_3.out.size; have e := HW0.out; subst e; simp at this; omega
              have hlt0 : w.heap.size < W3.heap.size := by omega
              have hlt1 : w.heap.size + 1 < W3.heap.size := by omega
              have hwh : World.whole (W3.alloc (.cells #[.int .i64 i, .int .i64 a, .int .i64 y, .int .i64 d, .int .i64 q, .int .i64 p, .int .i64 f, .int .i64 3, .int .i64 0, .int .i64 0, .int .i64 v, .bool g] 23)) (w.heap.size + 1 + 1) 12 23 := whole_of ((Below.heap_alloc _ _ _ hlt).trans (HX2.out W3 HB0_3.out)) rfl
              go_upto_region 21 with fail
              go_wp2_with (refine wpList_store_whole 23 (.tmp 4) (.tmp 93) (w.heap.size + 1 + 1) 12 _ 23 (by rfl) (by rfl) hwh (by rfl) (by kernel_rfl) (by kernel_rfl) ?_)
              obtain ⟨v0, v1, v2, v3, v4, v5, v6, v7, v8, v9, v10, v11⟩ := cells12 (setAll_self (vs := #[.int .i64 i, .int .i64 a, .int .i64 y, .int .i64 d, .int .i64 q, .int .i64 p, .int .i64 f, .int .i64 3, .int .i64 0, .int .i64 0, .int .i64 v, .bool g]) hwh rfl)
              exact bodyPost_ret (v := .tuple #[.agg #[.int .i64 i, .int .i64 a, .int .i64 y, .int .i64 d, .int .i64 q, .int .i64 p, .int .i64 f, .int .i64 3, .int .i64 0, .int .i64 0, .int .i64 v, .bool g], .int .i64 0]) (by simp [results, Try.results14, go_sem, v0, v1, v2, v3, v4, v5, v6, v7, v8, v9, v10, v11]) rfl ⟨rfl, setAll_below ((HBW.out.trans (HB0_3.out.mono HBW.out.size)).alloc (by omega) _) (by omega)⟩
            · have hu4 : (tN == 4) = false := by simpa using ht4
              have hv4 : (tN != 4) = true := by simpa using ht4
              have HT4 := Lib.hid ht4
              clear ht4
              by_cases ht3 : tN = 3
              · subst ht3
                have hx3 := (noteOk_iff.1 HN0.out).2.2
                simp only at hx3
                have hx4 := (tell_fill hx3).1
                clear hx3
                by_cases hlq : qN ≤ q - f
                · have hwf : IntKind.i64.wrap (f + qN) = f + qN := IntWalk.i64_in _ (by omega)
                  by_cases hlr : qN < q - f
                  · have hu : u = (⟨i, a, y, d, q, p, (f + qN), 2, m, r, v, g⟩, 0) := by rw [← HU.out, HT.out]; simp [done, HT4.out, hlq, hlr]
                    subst hu
                    clear HU HT
                    have hlt : w.heap.size + 1 + 1 < W3.heap.size := by have := HB0_3.out.size; have e := HW0.out; subst e; simp at this; omega
                    have hlt0 : w.heap.size < W3.heap.size := by omega
                    have hlt1 : w.heap.size + 1 < W3.heap.size := by omega
                    have hwh : World.whole (W3.alloc (.cells #[.int .i64 i, .int .i64 a, .int .i64 y, .int .i64 d, .int .i64 q, .int .i64 p, .int .i64 (f + qN), .int .i64 2, .int .i64 m, .int .i64 r, .int .i64 v, .bool g] 23)) (w.heap.size + 1 + 1) 12 23 := whole_of ((Below.heap_alloc _ _ _ hlt).trans (HX2.out W3 HB0_3.out)) rfl
                    go_upto_region 15 with fail
                    go_wp2_with (refine wpList_store_whole 23 (.tmp 4) (.tmp 88) (w.heap.size + 1 + 1) 12 _ 23 (by rfl) (by rfl) hwh (by rfl) (by kernel_rfl) (by kernel_rfl) ?_)
                    obtain ⟨v0, v1, v2, v3, v4, v5, v6, v7, v8, v9, v10, v11⟩ := cells12 (setAll_self (vs := #[.int .i64 i, .int .i64 a, .int .i64 y, .int .i64 d, .int .i64 q, .int .i64 p, .int .i64 (f + qN), .int .i64 2, .int .i64 m, .int .i64 r, .int .i64 v, .bool g]) hwh rfl)
                    exact bodyPost_ret (v := .tuple #[.agg #[.int .i64 i, .int .i64 a, .int .i64 y, .int .i64 d, .int .i64 q, .int .i64 p, .int .i64 (f + qN), .int .i64 2, .int .i64 m, .int .i64 r, .int .i64 v, .bool g], .int .i64 0]) (by simp [results, Try.results14, go_sem, v0, v1, v2, v3, v4, v5, v6, v7, v8, v9, v10, v11]) rfl ⟨rfl, setAll_below ((HBW.out.trans (HB0_3.out.mono HBW.out.size)).alloc (by omega) _) (by omega)⟩
                  · have hlr' : q - f ≤ qN := by omega
                    have hu : u = (⟨i, a, y, d, q, p, (f + qN), 3, 0, 0, v, g⟩, 0) := by rw [← HU.out, HT.out]; simp [done, HT4.out, hlq, hlr]
                    subst hu
                    clear HU HT
                    have hlt : w.heap.size + 1 + 1 < W3.heap.size := by have := HB0_3.out.size; have e := HW0.out; subst e; simp at this; omega
                    have hlt0 : w.heap.size < W3.heap.size := by omega
                    have hlt1 : w.heap.size + 1 < W3.heap.size := by omega
                    have hwh : World.whole (W3.alloc (.cells #[.int .i64 i, .int .i64 a, .int .i64 y, .int .i64 d, .int .i64 q, .int .i64 p, .int .i64 (f + qN), .int .i64 3, .int .i64 0, .int .i64 0, .int .i64 v, .bool g] 23)) (w.heap.size + 1 + 1) 12 23 := whole_of ((Below.heap_alloc _ _ _ hlt).trans (HX2.out W3 HB0_3.out)) rfl
                    go_upto_region 21 with fail
                    go_wp2_with (refine wpList_store_whole 23 (.tmp 4) (.tmp 93) (w.heap.size + 1 + 1) 12 _ 23 (by rfl) (by rfl) hwh (by rfl) (by kernel_rfl) (by kernel_rfl) ?_)
                    obtain ⟨v0, v1, v2, v3, v4, v5, v6, v7, v8, v9, v10, v11⟩ := cells12 (setAll_self (vs := #[.int .i64 i, .int .i64 a, .int .i64 y, .int .i64 d, .int .i64 q, .int .i64 p, .int .i64 (f + qN), .int .i64 3, .int .i64 0, .int .i64 0, .int .i64 v, .bool g]) hwh rfl)
                    exact bodyPost_ret (v := .tuple #[.agg #[.int .i64 i, .int .i64 a, .int .i64 y, .int .i64 d, .int .i64 q, .int .i64 p, .int .i64 (f + qN), .int .i64 3, .int .i64 0, .int .i64 0, .int .i64 v, .bool g], .int .i64 0]) (by simp [results, Try.results14, go_sem, v0, v1, v2, v3, v4, v5, v6, v7, v8, v9, v10, v11]) rfl ⟨rfl, setAll_below ((HBW.out.trans (HB0_3.out.mono HBW.out.size)).alloc (by omega) _) (by omega)⟩
                · have hln : ¬ qN ≤ q - f := hlq
                  have hlq' : q - f < qN := by omega
                  clear hlq
                  by_cases hl1 : 0 < m
                  · have hu : u = (⟨i, a, y, d, q, p, f, 2, m, r, v, g⟩, 8) := by rw [← HU.out, HT.out]; simp [done, HT4.out, hln]
                    subst hu
                    clear HU HT
                    have hlt : w.heap.size + 1 + 1 < W3.heap.size := by have := HB0_3.out.size; have e := HW0.out; subst e; simp at this; omega
                    have hlt0 : w.heap.size < W3.heap.size := by omega
                    have hlt1 : w.heap.size + 1 < W3.heap.size := by omega
                    have hwh : World.whole (W3.alloc (.cells #[.int .i64 i, .int .i64 a, .int .i64 y, .int .i64 d, .int .i64 q, .int .i64 p, .int .i64 f, .int .i64 2, .int .i64 m, .int .i64 r, .int .i64 v, .bool g] 23)) (w.heap.size + 1 + 1) 12 23 := whole_of ((Below.heap_alloc _ _ _ hlt).trans (HX2.out W3 HB0_3.out)) rfl
                    go_upto_region 32 with fail
                    go_wp2_with (refine wpList_store_whole 23 (.tmp 4) (.tmp 149) (w.heap.size + 1 + 1) 12 _ 23 (by rfl) (by rfl) hwh (by rfl) (by kernel_rfl) (by kernel_rfl) ?_)
                    obtain ⟨v0, v1, v2, v3, v4, v5, v6, v7, v8, v9, v10, v11⟩ := cells12 (setAll_self (vs := #[.int .i64 i, .int .i64 a, .int .i64 y, .int .i64 d, .int .i64 q, .int .i64 p, .int .i64 f, .int .i64 2, .int .i64 m, .int .i64 r, .int .i64 v, .bool g]) hwh rfl)
                    exact bodyPost_ret (v := .tuple #[.agg #[.int .i64 i, .int .i64 a, .int .i64 y, .int .i64 d, .int .i64 q, .int .i64 p, .int .i64 f, .int .i64 2, .int .i64 m, .int .i64 r, .int .i64 v, .bool g], .int .i64 8]) (by simp [results, Try.results14, go_sem, v0, v1, v2, v3, v4, v5, v6, v7, v8, v9, v10, v11]) rfl ⟨rfl, setAll_below ((HBW.out.trans (HB0_3.out.mono HBW.out.size)).alloc (by omega) _) (by omega)⟩
                  · have hn1 : m ≤ 0 := by omega
                    have hu : u = (⟨i, a, y, d, q, p, f, 2, m, r, v, g⟩, 8) := by rw [← HU.out, HT.out]; simp [done, HT4.out, hln]
                    subst hu
                    clear HU HT
                    have hlt : w.heap.size + 1 + 1 < W3.heap.size := by have := HB0_3.out.size; have e := HW0.out; subst e; simp at this; omega
                    have hlt0 : w.heap.size < W3.heap.size := by omega
                    have hlt1 : w.heap.size + 1 < W3.heap.size := by omega
                    have hwh : World.whole (W3.alloc (.cells #[.int .i64 i, .int .i64 a, .int .i64 y, .int .i64 d, .int .i64 q, .int .i64 p, .int .i64 f, .int .i64 2, .int .i64 m, .int .i64 r, .int .i64 v, .bool g] 23)) (w.heap.size + 1 + 1) 12 23 := whole_of ((Below.heap_alloc _ _ _ hlt).trans (HX2.out W3 HB0_3.out)) rfl
                    go_upto_region 32 with fail
                    go_wp2_with (refine wpList_store_whole 23 (.tmp 4) (.tmp 149) (w.heap.size + 1 + 1) 12 _ 23 (by rfl) (by rfl) hwh (by rfl) (by kernel_rfl) (by kernel_rfl) ?_)
                    obtain ⟨v0, v1, v2, v3, v4, v5, v6, v7, v8, v9, v10, v11⟩ := cells12 (setAll_self (vs := #[.int .i64 i, .int .i64 a, .int .i64 y, .int .i64 d, .int .i64 q, .int .i64 p, .int .i64 f, .int .i64 2, .int .i64 m, .int .i64 r, .int .i64 v, .bool g]) hwh rfl)
                    exact bodyPost_ret (v := .tuple #[.agg #[.int .i64 i, .int .i64 a, .int .i64 y, .int .i64 d, .int .i64 q, .int .i64 p, .int .i64 f, .int .i64 2, .int .i64 m, .int .i64 r, .int .i64 v, .bool g], .int .i64 8]) (by simp [results, Try.results14, go_sem, v0, v1, v2, v3, v4, v5, v6, v7, v8, v9, v10, v11]) rfl ⟨rfl, setAll_below ((HBW.out.trans (HB0_3.out.mono HBW.out.size)).alloc (by omega) _) (by omega)⟩
              · have hu3 : (tN == 3) = false := by simpa using ht3
                have hv3 : (tN != 3) = true := by simpa using ht3
                have HT3 := Lib.hid ht3
                clear ht3
                by_cases ht6 : tN = 6
                · subst ht6
                  by_cases hl2 : 0 < m
                  · have hu : u = (⟨i, a, y, d, q, p, f, 2, 0, 0, v, g⟩, 0) := by rw [← HU.out, HT.out]; simp [done, HT4.out, HT3.out, hl2]
                    subst hu
                    clear HU HT
                    have hlt : w.heap.size + 1 + 1 < W3.heap.size := by have := HB0_3.out.size; have e := HW0.out; subst e; simp at this; omega
                    have hlt0 : w.heap.size < W3.heap.size := by omega
                    have hlt1 : w.heap.size + 1 < W3.heap.size := by omega
                    have hwh : World.whole (W3.alloc (.cells #[.int .i64 i, .int .i64 a, .int .i64 y, .int .i64 d, .int .i64 q, .int .i64 p, .int .i64 f, .int .i64 2, .int .i64 0, .int .i64 0, .int .i64 v, .bool g] 23)) (w.heap.size + 1 + 1) 12 23 := whole_of ((Below.heap_alloc _ _ _ hlt).trans (HX2.out W3 HB0_3.out)) rfl
                    go_upto_region 25 with fail
                    go_wp2_with (refine wpList_store_whole 23 (.tmp 4) (.tmp 107) (w.heap.size + 1 + 1) 12 _ 23 (by rfl) (by rfl) hwh (by rfl) (by kernel_rfl) (by kernel_rfl) ?_)
                    obtain ⟨v0, v1, v2, v3, v4, v5, v6, v7, v8, v9, v10, v11⟩ := cells12 (setAll_self (vs := #[.int .i64 i, .int .i64 a, .int .i64 y, .int .i64 d, .int .i64 q, .int .i64 p, .int .i64 f, .int .i64 2, .int .i64 0, .int .i64 0, .int .i64 v, .bool g]) hwh rfl)
                    exact bodyPost_ret (v := .tuple #[.agg #[.int .i64 i, .int .i64 a, .int .i64 y, .int .i64 d, .int .i64 q, .int .i64 p, .int .i64 f, .int .i64 2, .int .i64 0, .int .i64 0, .int .i64 v, .bool g], .int .i64 0]) (by simp [results, Try.results14, go_sem, v0, v1, v2, v3, v4, v5, v6, v7, v8, v9, v10, v11]) rfl ⟨rfl, setAll_below ((HBW.out.trans (HB0_3.out.mono HBW.out.size)).alloc (by omega) _) (by omega)⟩
                  · have hn2 : m ≤ 0 := by omega
                    have hu : u = (⟨i, a, y, d, q, p, f, 2, m, r, v, g⟩, 8) := by rw [← HU.out, HT.out]; simp [done, HT4.out, HT3.out, hl2]
                    subst hu
                    clear HU HT
                    have hlt : w.heap.size + 1 + 1 < W3.heap.size := by have := HB0_3.out.size; have e := HW0.out; subst e; simp at this; omega
                    have hlt0 : w.heap.size < W3.heap.size := by omega
                    have hlt1 : w.heap.size + 1 < W3.heap.size := by omega
                    have hwh : World.whole (W3.alloc (.cells #[.int .i64 i, .int .i64 a, .int .i64 y, .int .i64 d, .int .i64 q, .int .i64 p, .int .i64 f, .int .i64 2, .int .i64 m, .int .i64 r, .int .i64 v, .bool g] 23)) (w.heap.size + 1 + 1) 12 23 := whole_of ((Below.heap_alloc _ _ _ hlt).trans (HX2.out W3 HB0_3.out)) rfl
                    go_upto_region 32 with fail
                    go_wp2_with (refine wpList_store_whole 23 (.tmp 4) (.tmp 149) (w.heap.size + 1 + 1) 12 _ 23 (by rfl) (by rfl) hwh (by rfl) (by kernel_rfl) (by kernel_rfl) ?_)
                    obtain ⟨v0, v1, v2, v3, v4, v5, v6, v7, v8, v9, v10, v11⟩ := cells12 (setAll_self (vs := #[.int .i64 i, .int .i64 a, .int .i64 y, .int .i64 d, .int .i64 q, .int .i64 p, .int .i64 f, .int .i64 2, .int .i64 m, .int .i64 r, .int .i64 v, .bool g]) hwh rfl)
                    exact bodyPost_ret (v := .tuple #[.agg #[.int .i64 i, .int .i64 a, .int .i64 y, .int .i64 d, .int .i64 q, .int .i64 p, .int .i64 f, .int .i64 2, .int .i64 m, .int .i64 r, .int .i64 v, .bool g], .int .i64 8]) (by simp [results, Try.results14, go_sem, v0, v1, v2, v3, v4, v5, v6, v7, v8, v9, v10, v11]) rfl ⟨rfl, setAll_below ((HBW.out.trans (HB0_3.out.mono HBW.out.size)).alloc (by omega) _) (by omega)⟩
                · have hu6 : (tN == 6) = false := by simpa using ht6
                  have hv6 : (tN != 6) = true := by simpa using ht6
                  have HT6 := Lib.hid ht6
                  clear ht6
                  by_cases ht5 : tN = 5
                  · subst ht5
                    by_cases hl3 : 0 < m
                    · rcases eq_cases qN m with ⟨HE4, he4, hf4⟩ | ⟨HE4, he4, hf4⟩
                      · rcases eq_cases pN r with ⟨HE5, he5, hf5⟩ | ⟨HE5, he5, hf5⟩
                        · by_cases hl6 : f < qN
                          · have hfm : f < m := by have := HE4.out; omega
                            have hu : u = (⟨i, a, y, d, qN, pN, f, 2, 0, 0, v, g⟩, 0) := by rw [← HU.out, HT.out]; simp [done, HT4.out, HT3.out, HT6.out, hl3, HE4.out, HE5.out, hfm]
                            subst hu
                            clear HU HT
                            have hlt : w.heap.size + 1 + 1 < W3.heap.size := by have := HB0_3.out.size; have e := HW0.out; subst e; simp at this; omega
                            have hlt0 : w.heap.size < W3.heap.size := by omega
                            have hlt1 : w.heap.size + 1 < W3.heap.size := by omega
                            have hwh : World.whole (W3.alloc (.cells #[.int .i64 i, .int .i64 a, .int .i64 y, .int .i64 d, .int .i64 qN, .int .i64 pN, .int .i64 f, .int .i64 2, .int .i64 0, .int .i64 0, .int .i64 v, .bool g] 23)) (w.heap.size + 1 + 1) 12 23 := whole_of ((Below.heap_alloc _ _ _ hlt).trans (HX2.out W3 HB0_3.out)) rfl
                            go_upto_region 31 with fail
                            go_wp2_with (refine wpList_store_whole 23 (.tmp 4) (.tmp 148) (w.heap.size + 1 + 1) 12 _ 23 (by rfl) (by rfl) hwh (by rfl) (by kernel_rfl) (by kernel_rfl) ?_)
                            obtain ⟨v0, v1, v2, v3, v4, v5, v6, v7, v8, v9, v10, v11⟩ := cells12 (setAll_self (vs := #[.int .i64 i, .int .i64 a, .int .i64 y, .int .i64 d, .int .i64 qN, .int .i64 pN, .int .i64 f, .int .i64 2, .int .i64 0, .int .i64 0, .int .i64 v, .bool g]) hwh rfl)
                            exact bodyPost_ret (v := .tuple #[.agg #[.int .i64 i, .int .i64 a, .int .i64 y, .int .i64 d, .int .i64 qN, .int .i64 pN, .int .i64 f, .int .i64 2, .int .i64 0, .int .i64 0, .int .i64 v, .bool g], .int .i64 0]) (by simp [results, Try.results14, go_sem, v0, v1, v2, v3, v4, v5, v6, v7, v8, v9, v10, v11]) rfl ⟨rfl, setAll_below ((HBW.out.trans (HB0_3.out.mono HBW.out.size)).alloc (by omega) _) (by omega)⟩
                          · have hn6 : qN ≤ f := by omega
                            have hfm : ¬ f < m := by have := HE4.out; omega
                            have hu : u = (⟨i, a, y, d, q, p, f, 2, m, r, v, g⟩, 8) := by rw [← HU.out, HT.out]; simp [done, HT4.out, HT3.out, HT6.out, hl3, HE4.out, HE5.out, hfm]
                            subst hu
                            clear HU HT
                            have hlt : w.heap.size + 1 + 1 < W3.heap.size := by have := HB0_3.out.size; have e := HW0.out; subst e; simp at this; omega
                            have hlt0 : w.heap.size < W3.heap.size := by omega
                            have hlt1 : w.heap.size + 1 < W3.heap.size := by omega
                            have hwh : World.whole (W3.alloc (.cells #[.int .i64 i, .int .i64 a, .int .i64 y, .int .i64 d, .int .i64 q, .int .i64 p, .int .i64 f, .int .i64 2, .int .i64 m, .int .i64 r, .int .i64 v, .bool g] 23)) (w.heap.size + 1 + 1) 12 23 := whole_of ((Below.heap_alloc _ _ _ hlt).trans (HX2.out W3 HB0_3.out)) rfl
                            go_upto_region 32 with fail
                            go_wp2_with (refine wpList_store_whole 23 (.tmp 4) (.tmp 149) (w.heap.size + 1 + 1) 12 _ 23 (by rfl) (by rfl) hwh (by rfl) (by kernel_rfl) (by kernel_rfl) ?_)
                            obtain ⟨v0, v1, v2, v3, v4, v5, v6, v7, v8, v9, v10, v11⟩ := cells12 (setAll_self (vs := #[.int .i64 i, .int .i64 a, .int .i64 y, .int .i64 d, .int .i64 q, .int .i64 p, .int .i64 f, .int .i64 2, .int .i64 m, .int .i64 r, .int .i64 v, .bool g]) hwh rfl)
                            exact bodyPost_ret (v := .tuple #[.agg #[.int .i64 i, .int .i64 a, .int .i64 y, .int .i64 d, .int .i64 q, .int .i64 p, .int .i64 f, .int .i64 2, .int .i64 m, .int .i64 r, .int .i64 v, .bool g], .int .i64 8]) (by simp [results, Try.results14, go_sem, v0, v1, v2, v3, v4, v5, v6, v7, v8, v9, v10, v11]) rfl ⟨rfl, setAll_below ((HBW.out.trans (HB0_3.out.mono HBW.out.size)).alloc (by omega) _) (by omega)⟩
                        · have hu : u = (⟨i, a, y, d, q, p, f, 2, m, r, v, g⟩, 8) := by rw [← HU.out, HT.out]; simp [done, HT4.out, HT3.out, HT6.out, hl3, HE4.out, HE5.out]
                          subst hu
                          clear HU HT
                          have hlt : w.heap.size + 1 + 1 < W3.heap.size := by have := HB0_3.out.size; have e := HW0.out; subst e; simp at this; omega
                          have hlt0 : w.heap.size < W3.heap.size := by omega
                          have hlt1 : w.heap.size + 1 < W3.heap.size := by omega
                          have hwh : World.whole (W3.alloc (.cells #[.int .i64 i, .int .i64 a, .int .i64 y, .int .i64 d, .int .i64 q, .int .i64 p, .int .i64 f, .int .i64 2, .int .i64 m, .int .i64 r, .int .i64 v, .bool g] 23)) (w.heap.size + 1 + 1) 12 23 := whole_of ((Below.heap_alloc _ _ _ hlt).trans (HX2.out W3 HB0_3.out)) rfl
                          go_upto_region 32 with fail
                          go_wp2_with (refine wpList_store_whole 23 (.tmp 4) (.tmp 149) (w.heap.size + 1 + 1) 12 _ 23 (by rfl) (by rfl) hwh (by rfl) (by kernel_rfl) (by kernel_rfl) ?_)
                          obtain ⟨v0, v1, v2, v3, v4, v5, v6, v7, v8, v9, v10, v11⟩ := cells12 (setAll_self (vs := #[.int .i64 i, .int .i64 a, .int .i64 y, .int .i64 d, .int .i64 q, .int .i64 p, .int .i64 f, .int .i64 2, .int .i64 m, .int .i64 r, .int .i64 v, .bool g]) hwh rfl)
                          exact bodyPost_ret (v := .tuple #[.agg #[.int .i64 i, .int .i64 a, .int .i64 y, .int .i64 d, .int .i64 q, .int .i64 p, .int .i64 f, .int .i64 2, .int .i64 m, .int .i64 r, .int .i64 v, .bool g], .int .i64 8]) (by simp [results, Try.results14, go_sem, v0, v1, v2, v3, v4, v5, v6, v7, v8, v9, v10, v11]) rfl ⟨rfl, setAll_below ((HBW.out.trans (HB0_3.out.mono HBW.out.size)).alloc (by omega) _) (by omega)⟩
                      · have hu : u = (⟨i, a, y, d, q, p, f, 2, m, r, v, g⟩, 8) := by rw [← HU.out, HT.out]; simp [done, HT4.out, HT3.out, HT6.out, hl3, HE4.out]
                        subst hu
                        clear HU HT
                        have hlt : w.heap.size + 1 + 1 < W3.heap.size := by have := HB0_3.out.size; have e := HW0.out; subst e; simp at this; omega
                        have hlt0 : w.heap.size < W3.heap.size := by omega
                        have hlt1 : w.heap.size + 1 < W3.heap.size := by omega
                        have hwh : World.whole (W3.alloc (.cells #[.int .i64 i, .int .i64 a, .int .i64 y, .int .i64 d, .int .i64 q, .int .i64 p, .int .i64 f, .int .i64 2, .int .i64 m, .int .i64 r, .int .i64 v, .bool g] 23)) (w.heap.size + 1 + 1) 12 23 := whole_of ((Below.heap_alloc _ _ _ hlt).trans (HX2.out W3 HB0_3.out)) rfl
                        go_upto_region 32 with fail
                        go_wp2_with (refine wpList_store_whole 23 (.tmp 4) (.tmp 149) (w.heap.size + 1 + 1) 12 _ 23 (by rfl) (by rfl) hwh (by rfl) (by kernel_rfl) (by kernel_rfl) ?_)
                        obtain ⟨v0, v1, v2, v3, v4, v5, v6, v7, v8, v9, v10, v11⟩ := cells12 (setAll_self (vs := #[.int .i64 i, .int .i64 a, .int .i64 y, .int .i64 d, .int .i64 q, .int .i64 p, .int .i64 f, .int .i64 2, .int .i64 m, .int .i64 r, .int .i64 v, .bool g]) hwh rfl)
                        exact bodyPost_ret (v := .tuple #[.agg #[.int .i64 i, .int .i64 a, .int .i64 y, .int .i64 d, .int .i64 q, .int .i64 p, .int .i64 f, .int .i64 2, .int .i64 m, .int .i64 r, .int .i64 v, .bool g], .int .i64 8]) (by simp [results, Try.results14, go_sem, v0, v1, v2, v3, v4, v5, v6, v7, v8, v9, v10, v11]) rfl ⟨rfl, setAll_below ((HBW.out.trans (HB0_3.out.mono HBW.out.size)).alloc (by omega) _) (by omega)⟩
                    · have hn3 : m ≤ 0 := by omega
                      have hu : u = (⟨i, a, y, d, q, p, f, 2, m, r, v, g⟩, 8) := by rw [← HU.out, HT.out]; simp [done, HT4.out, HT3.out, HT6.out, hl3]
                      subst hu
                      clear HU HT
                      have hlt : w.heap.size + 1 + 1 < W3.heap.size := by have := HB0_3.out.size; have e := HW0.out; subst e; simp at this; omega
                      have hlt0 : w.heap.size < W3.heap.size := by omega
                      have hlt1 : w.heap.size + 1 < W3.heap.size := by omega
                      have hwh : World.whole (W3.alloc (.cells #[.int .i64 i, .int .i64 a, .int .i64 y, .int .i64 d, .int .i64 q, .int .i64 p, .int .i64 f, .int .i64 2, .int .i64 m, .int .i64 r, .int .i64 v, .bool g] 23)) (w.heap.size + 1 + 1) 12 23 := whole_of ((Below.heap_alloc _ _ _ hlt).trans (HX2.out W3 HB0_3.out)) rfl
                      go_upto_region 32 with fail
                      go_wp2_with (refine wpList_store_whole 23 (.tmp 4) (.tmp 149) (w.heap.size + 1 + 1) 12 _ 23 (by rfl) (by rfl) hwh (by rfl) (by kernel_rfl) (by kernel_rfl) ?_)
                      obtain ⟨v0, v1, v2, v3, v4, v5, v6, v7, v8, v9, v10, v11⟩ := cells12 (setAll_self (vs := #[.int .i64 i, .int .i64 a, .int .i64 y, .int .i64 d, .int .i64 q, .int .i64 p, .int .i64 f, .int .i64 2, .int .i64 m, .int .i64 r, .int .i64 v, .bool g]) hwh rfl)
                      exact bodyPost_ret (v := .tuple #[.agg #[.int .i64 i, .int .i64 a, .int .i64 y, .int .i64 d, .int .i64 q, .int .i64 p, .int .i64 f, .int .i64 2, .int .i64 m, .int .i64 r, .int .i64 v, .bool g], .int .i64 8]) (by simp [results, Try.results14, go_sem, v0, v1, v2, v3, v4, v5, v6, v7, v8, v9, v10, v11]) rfl ⟨rfl, setAll_below ((HBW.out.trans (HB0_3.out.mono HBW.out.size)).alloc (by omega) _) (by omega)⟩
                  · have hu5 : (tN == 5) = false := by simpa using ht5
                    have hv5 : (tN != 5) = true := by simpa using ht5
                    have HT5 := Lib.hid ht5
                    clear ht5
                    by_cases hl7 : 0 < m
                    · have hu : u = (⟨i, a, y, d, q, p, f, 2, m, r, v, g⟩, 8) := by rw [← HU.out, HT.out]; simp [done, HT4.out, HT3.out, HT6.out, HT5.out, hl7]
                      subst hu
                      clear HU HT
                      have hlt : w.heap.size + 1 + 1 < W3.heap.size := by have := HB0_3.out.size; have e := HW0.out; subst e; simp at this; omega
                      have hlt0 : w.heap.size < W3.heap.size := by omega
                      have hlt1 : w.heap.size + 1 < W3.heap.size := by omega
                      have hwh : World.whole (W3.alloc (.cells #[.int .i64 i, .int .i64 a, .int .i64 y, .int .i64 d, .int .i64 q, .int .i64 p, .int .i64 f, .int .i64 2, .int .i64 m, .int .i64 r, .int .i64 v, .bool g] 23)) (w.heap.size + 1 + 1) 12 23 := whole_of ((Below.heap_alloc _ _ _ hlt).trans (HX2.out W3 HB0_3.out)) rfl
                      go_upto_region 32 with fail
                      go_wp2_with (refine wpList_store_whole 23 (.tmp 4) (.tmp 149) (w.heap.size + 1 + 1) 12 _ 23 (by rfl) (by rfl) hwh (by rfl) (by kernel_rfl) (by kernel_rfl) ?_)
                      obtain ⟨v0, v1, v2, v3, v4, v5, v6, v7, v8, v9, v10, v11⟩ := cells12 (setAll_self (vs := #[.int .i64 i, .int .i64 a, .int .i64 y, .int .i64 d, .int .i64 q, .int .i64 p, .int .i64 f, .int .i64 2, .int .i64 m, .int .i64 r, .int .i64 v, .bool g]) hwh rfl)
                      exact bodyPost_ret (v := .tuple #[.agg #[.int .i64 i, .int .i64 a, .int .i64 y, .int .i64 d, .int .i64 q, .int .i64 p, .int .i64 f, .int .i64 2, .int .i64 m, .int .i64 r, .int .i64 v, .bool g], .int .i64 8]) (by simp [results, Try.results14, go_sem, v0, v1, v2, v3, v4, v5, v6, v7, v8, v9, v10, v11]) rfl ⟨rfl, setAll_below ((HBW.out.trans (HB0_3.out.mono HBW.out.size)).alloc (by omega) _) (by omega)⟩
                    · have hn7 : m ≤ 0 := by omega
                      have hu : u = (⟨i, a, y, d, q, p, f, 2, m, r, v, g⟩, 8) := by rw [← HU.out, HT.out]; simp [done, HT4.out, HT3.out, HT6.out, HT5.out, hl7]
                      subst hu
                      clear HU HT
                      have hlt : w.heap.size + 1 + 1 < W3.heap.size := by have := HB0_3.out.size; have e := HW0.out; subst e; simp at this; omega
                      have hlt0 : w.heap.size < W3.heap.size := by omega
                      have hlt1 : w.heap.size + 1 < W3.heap.size := by omega
                      have hwh : World.whole (W3.alloc (.cells #[.int .i64 i, .int .i64 a, .int .i64 y, .int .i64 d, .int .i64 q, .int .i64 p, .int .i64 f, .int .i64 2, .int .i64 m, .int .i64 r, .int .i64 v, .bool g] 23)) (w.heap.size + 1 + 1) 12 23 := whole_of ((Below.heap_alloc _ _ _ hlt).trans (HX2.out W3 HB0_3.out)) rfl
                      go_upto_region 32 with fail
                      go_wp2_with (refine wpList_store_whole 23 (.tmp 4) (.tmp 149) (w.heap.size + 1 + 1) 12 _ 23 (by rfl) (by rfl) hwh (by rfl) (by kernel_rfl) (by kernel_rfl) ?_)
                      obtain ⟨v0, v1, v2, v3, v4, v5, v6, v7, v8, v9, v10, v11⟩ := cells12 (setAll_self (vs := #[.int .i64 i, .int .i64 a, .int .i64 y, .int .i64 d, .int .i64 q, .int .i64 p, .int .i64 f, .int .i64 2, .int .i64 m, .int .i64 r, .int .i64 v, .bool g]) hwh rfl)
                      exact bodyPost_ret (v := .tuple #[.agg #[.int .i64 i, .int .i64 a, .int .i64 y, .int .i64 d, .int .i64 q, .int .i64 p, .int .i64 f, .int .i64 2, .int .i64 m, .int .i64 r, .int .i64 v, .bool g], .int .i64 8]) (by simp [results, Try.results14, go_sem, v0, v1, v2, v3, v4, v5, v6, v7, v8, v9, v10, v11]) rfl ⟨rfl, setAll_below ((HBW.out.trans (HB0_3.out.mono HBW.out.size)).alloc (by omega) _) (by omega)⟩
          · have hp2' : (ph == 2) = false := by simpa using hp2
            have HP2 := Lib.hid hp2
            clear hp2
            have hu : u = (⟨i, a, y, d, q, p, f, ph, m, r, v, g⟩, 8) := by rw [← HU.out, HT.out]; simp [done, HP1.out, HP2.out]
            subst hu
            clear HU HT
            have hlt : w.heap.size + 1 + 1 < W3.heap.size := by have := HB0_3.out.size; have e := HW0.out; subst e; simp at this; omega
            have hlt0 : w.heap.size < W3.heap.size := by omega
            have hlt1 : w.heap.size + 1 < W3.heap.size := by omega
            have hwh : World.whole (W3.alloc (.cells #[.int .i64 i, .int .i64 a, .int .i64 y, .int .i64 d, .int .i64 q, .int .i64 p, .int .i64 f, .int .i64 ph, .int .i64 m, .int .i64 r, .int .i64 v, .bool g] 23)) (w.heap.size + 1 + 1) 12 23 := whole_of ((Below.heap_alloc _ _ _ hlt).trans (HX2.out W3 HB0_3.out)) rfl
            go_upto_region 32 with fail
            go_wp2_with (refine wpList_store_whole 23 (.tmp 4) (.tmp 149) (w.heap.size + 1 + 1) 12 _ 23 (by rfl) (by rfl) hwh (by rfl) (by kernel_rfl) (by kernel_rfl) ?_)
            obtain ⟨v0, v1, v2, v3, v4, v5, v6, v7, v8, v9, v10, v11⟩ := cells12 (setAll_self (vs := #[.int .i64 i, .int .i64 a, .int .i64 y, .int .i64 d, .int .i64 q, .int .i64 p, .int .i64 f, .int .i64 ph, .int .i64 m, .int .i64 r, .int .i64 v, .bool g]) hwh rfl)
            exact bodyPost_ret (v := .tuple #[.agg #[.int .i64 i, .int .i64 a, .int .i64 y, .int .i64 d, .int .i64 q, .int .i64 p, .int .i64 f, .int .i64 ph, .int .i64 m, .int .i64 r, .int .i64 v, .bool g], .int .i64 8]) (by simp [results, Try.results14, go_sem, v0, v1, v2, v3, v4, v5, v6, v7, v8, v9, v10, v11]) rfl ⟨rfl, setAll_below ((HBW.out.trans (HB0_3.out.mono HBW.out.size)).alloc (by omega) _) (by omega)⟩
      · obtain ⟨n_0, n_1, n_2, n_3, n_4⟩ := cells5 (HX1.out W3 HB0_3.out)
        have hu : u = (⟨i, a, y, d, q, p, f, ph, m, r, v, g⟩, 1) := by rw [← HU.out]; unfold take; rw [HC.out, HN0.out]; simp [HEI.out]
        subst hu
        clear HU
        obtain ⟨k_0, k_1, k_2, k_3, k_4, k_5, k_6, k_7, k_8, k_9, k_10, k_11⟩ := cells12 (HX0.out W3 HB0_3.out)
        have hwh : World.whole W3 (w.heap.size + 1 + 1) 12 23 := whole_of (HX2.out W3 HB0_3.out) rfl
        go_upto_region 2 with fail
        go_wp2_with (refine wpList_store_whole 23 (.tmp 4) (.tmp 26) (w.heap.size + 1 + 1) 12 _ 23 (by rfl) (by rfl) hwh (by rfl) (by kernel_rfl) (by kernel_rfl) ?_)
        obtain ⟨v0, v1, v2, v3, v4, v5, v6, v7, v8, v9, v10, v11⟩ := cells12 (setAll_self (vs := #[.int .i64 i, .int .i64 a, .int .i64 y, .int .i64 d, .int .i64 q, .int .i64 p, .int .i64 f, .int .i64 ph, .int .i64 m, .int .i64 r, .int .i64 v, .bool g]) hwh rfl)
        exact bodyPost_ret (v := .tuple #[.agg #[.int .i64 i, .int .i64 a, .int .i64 y, .int .i64 d, .int .i64 q, .int .i64 p, .int .i64 f, .int .i64 ph, .int .i64 m, .int .i64 r, .int .i64 v, .bool g], .int .i64 1]) (by simp [results, Try.results14, go_sem, v0, v1, v2, v3, v4, v5, v6, v7, v8, v9, v10, v11]) rfl ⟨rfl, setAll_below (HBW.out.trans (HB0_3.out.mono HBW.out.size)) (by omega)⟩

theorem rtake_is (i a y d q p f ph m r v : Int) (g : Bool) (zN tN oN qN pN : Int) {i' a' y' d' q' p' f' ph' m' r' v' : Int} {g' : Bool} {e : Int} (hf : (⟨i, a, y, d, q, p, f, ph, m, r, v, g⟩ : Or).fine) (hn : frame.inR zN ∧ frame.inR tN ∧ frame.inR oN ∧ frame.inR qN ∧ frame.inR pN) (h : take ⟨i, a, y, d, q, p, f, ph, m, r, v, g⟩ ⟨zN, tN, oN, qN, pN⟩ = (⟨i', a', y', d', q', p', f', ph', m', r', v', g'⟩, e)) (w : World) : Calls Try.prog 14 #[.agg #[.int .i64 i, .int .i64 a, .int .i64 y, .int .i64 d, .int .i64 q, .int .i64 p, .int .i64 f, .int .i64 ph, .int .i64 m, .int .i64 r, .int .i64 v, .bool g], .agg #[.int .i64 zN, .int .i64 tN, .int .i64 oN, .int .i64 qN, .int .i64 pN]] w fun e' w' => e' = .returned (.tuple #[.agg #[.int .i64 i', .int .i64 a', .int .i64 y', .int .i64 d', .int .i64 q', .int .i64 p', .int .i64 f', .int .i64 ph', .int .i64 m', .int .i64 r', .int .i64 v', .bool g'], .int .i64 e]) ∧ Below w.heap.size w w' := by
  have key := rtake_any i a y d q p f ph m r v g zN tN oN qN pN hf hn w
  rw [h] at key
  exact key

end Go.Proofs.Ytfnapckjccjjjaa.order
