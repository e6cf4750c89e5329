/-
  OrdImplO, OrdImplW
-/
import Derived.Test.YtiljgndgffoloabMA22
import Derived.Test.YtiljgndgffoloabMA17
import Derived.Test.YtiljgndgffoloabMA02
import Derived.Deep.DeepCutAuto
import Derived.BigQuiet
section
namespace Go.Proofs.Ytiljgndgffoloab.order
open Go.RowKit Go.Proofs.Ytiljgndgffoloab
set_option linter.unusedVariables false
set_option linter.unusedSimpArgs false
set_option maxRecDepth 20000
set_option maxHeartbeats 8000000

theorem open_any (i a y d q p f ph m r v : Int) (g : Bool) (hf : (⟨i, a, y, d, q, p, f, ph, m, r, v, g⟩ : Or).fine) (w : World) : Calls Try.prog 73 #[.agg #[.int .i64 i, .int .i64 a, .int .i64 y, .int .i64 d, .int .i64 q, .int .i64 p, .int .i64 f, .int .i64 ph, .int .i64 m, .int .i64 r, .int .i64 v, .bool g]] w fun e w' => e = .returned (.int .i64 (open_ ⟨i, a, y, d, q, p, f, ph, m, r, v, g⟩)) ∧ Below w.heap.size w w' := by
  obtain ⟨W0, HW0⟩ : ∃ W, Hid ((w.alloc (.cells #[.int .i64 i, .int .i64 a, .int .i64 y, .int .i64 d, .int .i64 q, .int .i64 p, .int .i64 f, .int .i64 ph, .int .i64 m, .int .i64 r, .int .i64 v, .bool g] 47)) = W) := ⟨_, Lib.hid rfl⟩
  have HBW : Hid (Below w.heap.size w W0) := Lib.hid (by rw [← HW0.out]; exact (Below.refl _ _).alloc (by simp) _)
  have HX0 : Hid (∀ W, Below W0.heap.size W0 W → W.heap[w.heap.size]? = some (.cells #[.int .i64 i, .int .i64 a, .int .i64 y, .int .i64 d, .int .i64 q, .int .i64 p, .int .i64 f, .int .i64 ph, .int .i64 m, .int .i64 r, .int .i64 v, .bool g] 47 (0, 0))) := Lib.hid (fun W hb => (hb.block _ (by rw [← HW0.out]; simp; try omega)).trans (by rw [← HW0.out]; have := heap_alloc_new w (.cells #[.int .i64 i, .int .i64 a, .int .i64 y, .int .i64 d, .int .i64 q, .int .i64 p, .int .i64 f, .int .i64 ph, .int .i64 m, .int .i64 r, .int .i64 v, .bool g] 47); exact this))
  have HF := Lib.hid hf
  obtain ⟨c, HC⟩ : ∃ x, Hid (right ⟨i, a, y, d, q, p, f, ph, m, r, v, g⟩ = x) := ⟨_, Lib.hid rfl⟩
  obtain ⟨u, HU⟩ : ∃ u, Hid (open_ ⟨i, a, y, d, q, p, f, ph, m, r, v, g⟩ = u) := ⟨_, Lib.hid rfl⟩
  rw [HU.out]
  clear hf
  go_enter Try.func73, Try.ntmps73
  go_wp2_with fail
  refine Calls.mono (right_is i a y d q p f ph m r v g HF.out HC.out _) ?_
  rintro e1 W1 ⟨rfl, hb⟩
  rw [HW0.out] at hb
  have HB0_1 : Hid (Below W0.heap.size W0 W1) := Lib.hid (hb)
  clear hb
  rcases c with _ | _
  · have hu : u = 0 := by rw [← HU.out]; unfold open_; rw [HC.out]; simp []
    subst hu
    clear HU
    obtain ⟨k_0, k_1, k_2, k_3, k_4, k_5, k_6, k_7, k_8, k_9, k_10, k_11⟩ := cells12 (HX0.out W1 HB0_1.out)
    go_wp2_with fail
    go_ret
    exact ⟨rfl, HBW.out.trans (HB0_1.out.mono HBW.out.size)⟩
  · rcases eq_cases ph 3 with ⟨HE1, he1, hf1⟩ | ⟨HE1, he1, hf1⟩
    · have hu : u = 0 := by rw [← HU.out]; unfold open_; rw [HC.out]; simp [HE1.out]
      subst hu
      clear HU
      obtain ⟨k_0, k_1, k_2, k_3, k_4, k_5, k_6, k_7, k_8, k_9, k_10, k_11⟩ := cells12 (HX0.out W1 HB0_1.out)
      go_wp2_with fail
      go_ret
      exact ⟨rfl, HBW.out.trans (HB0_1.out.mono HBW.out.size)⟩
    · have hr := right_iff.1 HC.out
      unfold Rightly at hr
      simp only at hr
      have hm := HF.out
      simp only [Or.fine, frame.inR] at hm
      have h1 : IntKind.i64.wrap (q - f) = q - f := IntWalk.i64_in _ (by omega)
      have h2 : IntKind.i64.wrap (m - f) = m - f := IntWalk.i64_in _ (by omega)
      have h3 : 0 ≤ f := by omega
      have h4 : f ≤ q := by omega
      have h5 : q ≤ 9223372036854775807 := by omega
      have h6 : m ≤ 9223372036854775807 := by omega
      have h7 : 0 ≤ m := by omega
      clear hr hm
      by_cases hl2 : q < m
      · have hu : u = (m - f) := by rw [← HU.out]; unfold open_; rw [HC.out]; simp [HE1.out, hl2]
        subst hu
        clear HU
        have hmx : max q m = m := by omega
        have hmc : ∀ W, Calls Try.prog 90 #[.int .i64 q, .int .i64 m] W fun e w' => e = .returned (.int .i64 m) ∧ W = w' := fun W => by have := num.max_any q m W (by unfold inI; omega) (by unfold inI; omega); rw [hmx] at this; exact this
        obtain ⟨k_0, k_1, k_2, k_3, k_4, k_5, k_6, k_7, k_8, k_9, k_10, k_11⟩ := cells12 (HX0.out W1 HB0_1.out)
        go_upto_region 3 with fail
        go_quiet (first | (go_at_call 90; with_reducible exact quietL (hmc _)) | fail)
        go_wp2_with fail
        go_ret
        exact ⟨rfl, below_drewN (HBW.out.trans (HB0_1.out.mono HBW.out.size)) _⟩
      · have hn2 : m ≤ q := by omega
        have hu : u = (q - f) := by rw [← HU.out]; unfold open_; rw [HC.out]; simp [HE1.out, hl2]
        subst hu
        clear HU
        have hmx : max q m = q := by omega
        have hmc : ∀ W, Calls Try.prog 90 #[.int .i64 q, .int .i64 m] W fun e w' => e = .returned (.int .i64 q) ∧ W = w' := fun W => by have := num.max_any q m W (by unfold inI; omega) (by unfold inI; omega); rw [hmx] at this; exact this
        obtain ⟨k_0, k_1, k_2, k_3, k_4, k_5, k_6, k_7, k_8, k_9, k_10, k_11⟩ := cells12 (HX0.out W1 HB0_1.out)
        go_upto_region 3 with fail
        go_quiet (first | (go_at_call 90; with_reducible exact quietL (hmc _)) | fail)
        go_wp2_with fail
        go_ret
        exact ⟨rfl, below_drewN (HBW.out.trans (HB0_1.out.mono HBW.out.size)) _⟩
theorem open_is (i a y d q p f ph m r v : Int) (g : Bool) {n : Int} (hf : (⟨i, a, y, d, q, p, f, ph, m, r, v, g⟩ : Or).fine) (h : open_ ⟨i, a, y, d, q, p, f, ph, m, r, v, g⟩ = n) (w : World) : Calls Try.prog 73 #[.agg #[.int .i64 i, .int .i64 a, .int .i64 y, .int .i64 d, .int .i64 q, .int .i64 p, .int .i64 f, .int .i64 ph, .int .i64 m, .int .i64 r, .int .i64 v, .bool g]] w fun e w' => e = .returned (.int .i64 n) ∧ Below w.heap.size w w' := by
  have key := open_any i a y d q p f ph m r v g hf w
  rw [h] at key
  exact key

end Go.Proofs.Ytiljgndgffoloab.order
end
section
namespace Go.Proofs.Ytiljgndgffoloab.order
open Go.RowKit Go.Proofs.Ytiljgndgffoloab
set_option linter.unusedVariables false
set_option linter.unusedSimpArgs false
set_option maxRecDepth 20000
set_option maxHeartbeats 8000000

theorem worth_any (i a y d q p f ph m r v : Int) (g : Bool) (hf : (⟨i, a, y, d, q, p, f, ph, m, r, v, g⟩ : Or).fine) (w : World) : Calls Try.prog 72 #[.agg #[.int .i64 i, .int .i64 a, .int .i64 y, .int .i64 d, .int .i64 q, .int .i64 p, .int .i64 f, .int .i64 ph, .int .i64 m, .int .i64 r, .int .i64 v, .bool g]] w fun e w' => e = .returned (.tuple #[.int .i64 (worth ⟨i, a, y, d, q, p, f, ph, m, r, v, g⟩).1, .int .i64 (worth ⟨i, a, y, d, q, p, f, ph, m, r, v, g⟩).2]) ∧ Below w.heap.size w w' := by
  obtain ⟨W0, HW0⟩ : ∃ W, Hid ((w.alloc (.cells #[.int .i64 i, .int .i64 a, .int .i64 y, .int .i64 d, .int .i64 q, .int .i64 p, .int .i64 f, .int .i64 ph, .int .i64 m, .int .i64 r, .int .i64 v, .bool g] 47)) = W) := ⟨_, Lib.hid rfl⟩
  have HBW : Hid (Below w.heap.size w W0) := Lib.hid (by rw [← HW0.out]; exact (Below.refl _ _).alloc (by simp) _)
  have HX0 : Hid (∀ W, Below W0.heap.size W0 W → W.heap[w.heap.size]? = some (.cells #[.int .i64 i, .int .i64 a, .int .i64 y, .int .i64 d, .int .i64 q, .int .i64 p, .int .i64 f, .int .i64 ph, .int .i64 m, .int .i64 r, .int .i64 v, .bool g] 47 (0, 0))) := Lib.hid (fun W hb => (hb.block _ (by rw [← HW0.out]; simp; try omega)).trans (by rw [← HW0.out]; have := heap_alloc_new w (.cells #[.int .i64 i, .int .i64 a, .int .i64 y, .int .i64 d, .int .i64 q, .int .i64 p, .int .i64 f, .int .i64 ph, .int .i64 m, .int .i64 r, .int .i64 v, .bool g] 47); exact this))
  have HF := Lib.hid hf
  obtain ⟨c, HC⟩ : ∃ x, Hid (right ⟨i, a, y, d, q, p, f, ph, m, r, v, g⟩ = x) := ⟨_, Lib.hid rfl⟩
  obtain ⟨u, HU⟩ : ∃ u, Hid (worth ⟨i, a, y, d, q, p, f, ph, m, r, v, g⟩ = u) := ⟨_, Lib.hid rfl⟩
  rw [HU.out]
  clear hf
  go_enter Try.func72, Try.ntmps72
  go_wp2_with fail
  refine Calls.mono (right_is i a y d q p f ph m r v g HF.out HC.out _) ?_
  rintro e1 W1 ⟨rfl, hb⟩
  rw [HW0.out] at hb
  have HB0_1 : Hid (Below W0.heap.size W0 W1) := Lib.hid (hb)
  clear hb
  rcases c with _ | _
  · have hu : u = (0, 1) := by rw [← HU.out]; unfold worth; rw [HC.out]; simp []
    subst hu
    clear HU
    obtain ⟨k_0, k_1, k_2, k_3, k_4, k_5, k_6, k_7, k_8, k_9, k_10, k_11⟩ := cells12 (HX0.out W1 HB0_1.out)
    go_wp2_with fail
    exact bodyPost_ret (v := .tuple #[.int .i64 0, .int .i64 1]) (by simp [results, Try.results72, go_sem]) rfl ⟨rfl, HBW.out.trans (HB0_1.out.mono HBW.out.size)⟩
  · rcases eq_cases ph 3 with ⟨HE1, he1, hf1⟩ | ⟨HE1, he1, hf1⟩
    · have hu : u = (0, 0) := by rw [← HU.out]; unfold worth; rw [HC.out]; simp [HE1.out]
      subst hu
      clear HU
      obtain ⟨k_0, k_1, k_2, k_3, k_4, k_5, k_6, k_7, k_8, k_9, k_10, k_11⟩ := cells12 (HX0.out W1 HB0_1.out)
      go_wp2_with fail
      exact bodyPost_ret (v := .tuple #[.int .i64 0, .int .i64 0]) (by simp [results, Try.results72, go_sem]) rfl ⟨rfl, HBW.out.trans (HB0_1.out.mono HBW.out.size)⟩
    · have hr := right_iff.1 HC.out
      unfold Rightly at hr
      simp only at hr
      have hm := HF.out
      simp only [Or.fine, frame.inR] at hm
      have h1 : IntKind.i64.wrap (q - f) = q - f := IntWalk.i64_in _ (by omega)
      have h2 : IntKind.i64.wrap (m - f) = m - f := IntWalk.i64_in _ (by omega)
      have h3 : 0 ≤ f := by omega
      have h4 : f ≤ q := by omega
      have h5 : q ≤ 9223372036854775807 := by omega
      have h6 : m ≤ 9223372036854775807 := by omega
      have h7 : 0 ≤ m := by omega
      have HI : Hid (inI (q - f) ∧ inI p ∧ inI (m - f) ∧ inI r) := Lib.hid (by unfold inI; omega)
      clear hr hm
      obtain ⟨A, HA⟩ : ∃ x, Hid ((q - f) * p = x) := ⟨_, Lib.hid rfl⟩
      obtain ⟨B, HB⟩ : ∃ x, Hid ((m - f) * r = x) := ⟨_, Lib.hid rfl⟩
      obtain ⟨k_0, k_1, k_2, k_3, k_4, k_5, k_6, k_7, k_8, k_9, k_10, k_11⟩ := cells12 (HX0.out W1 HB0_1.out)
      go_wp2_with fail
      by_cases hiA : inI A
      · have HOA := Lib.hid hiA
        have HFA : Hid (fits A = true) := Lib.hid (by unfold fits; unfold inI at hiA; exact decide_eq_true hiA)
        clear hiA
        refine Calls.mono (num.mul_is _ _ A _ HI.out.1 HI.out.2.1 HOA.out HA.out) ?_
        rintro e7 W' ⟨rfl, rfl⟩
        by_cases hl2 : f < m
        · go_wp2_with fail
          by_cases hiB : inI B
          · have HOB := Lib.hid hiB
            have HFB : Hid (fits B = true) := Lib.hid (by unfold fits; unfold inI at hiB; exact decide_eq_true hiB)
            clear hiB
            refine Calls.mono (num.mul_is _ _ B _ HI.out.2.2.1 HI.out.2.2.2 HOB.out HB.out) ?_
            rintro e8 W' ⟨rfl, rfl⟩
            by_cases hl3 : A < B
            · have hu : u = (B, 0) := by rw [← HU.out]; unfold worth; rw [HC.out]; simp [HA.out, HB.out, HE1.out, HFA.out, hl2, HFB.out, hl3]
              subst hu
              clear HU
              go_wp2_with fail
              refine Calls.mono (num.max_any A B _ HOA.out HOB.out) ?_
              rintro e9 W' ⟨rfl, rfl⟩
              have hmx : max A B = B := by omega
              rw [hmx]
              go_wp2_with fail
              exact bodyPost_ret (v := .tuple #[.int .i64 B, .int .i64 0]) (by simp [results, Try.results72, go_sem]) rfl ⟨rfl, HBW.out.trans (HB0_1.out.mono HBW.out.size)⟩
            · have hn3 : B ≤ A := by omega
              have hu : u = (A, 0) := by rw [← HU.out]; unfold worth; rw [HC.out]; simp [HA.out, HB.out, HE1.out, HFA.out, hl2, HFB.out, hl3]
              subst hu
              clear HU
              go_wp2_with fail
              refine Calls.mono (num.max_any A B _ HOA.out HOB.out) ?_
              rintro e9 W' ⟨rfl, rfl⟩
              have hmx : max A B = A := by omega
              rw [hmx]
              go_wp2_with fail
              exact bodyPost_ret (v := .tuple #[.int .i64 A, .int .i64 0]) (by simp [results, Try.results72, go_sem]) rfl ⟨rfl, HBW.out.trans (HB0_1.out.mono HBW.out.size)⟩
          · have HO := Lib.hid hiB
            have HFB : Hid (fits B = false) := Lib.hid (by unfold fits; unfold inI at hiB; exact decide_eq_false hiB)
            clear hiB
            refine Calls.mono (num.mul_over _ _ _ HI.out.2.2.1 HI.out.2.2.2 (by rw [HB.out]; exact HO.out)) ?_
            rintro e8 W' ⟨rfl, rfl⟩
            have hu : u = (0, 3) := by rw [← HU.out]; unfold worth; rw [HC.out]; simp [HA.out, HB.out, HE1.out, HFA.out, hl2, HFB.out]
            subst hu
            clear HU
            go_wp2_with fail
            exact bodyPost_ret (v := .tuple #[.int .i64 0, .int .i64 3]) (by simp [results, Try.results72, go_sem]) rfl ⟨rfl, HBW.out.trans (HB0_1.out.mono HBW.out.size)⟩
        · have hn2 : m ≤ f := by omega
          have hu : u = (A, 0) := by rw [← HU.out]; unfold worth; rw [HC.out]; simp [HA.out, HB.out, HE1.out, HFA.out, hl2]
          subst hu
          clear HU
          go_wp2_with fail
          exact bodyPost_ret (v := .tuple #[.int .i64 A, .int .i64 0]) (by simp [results, Try.results72, go_sem]) rfl ⟨rfl, HBW.out.trans (HB0_1.out.mono HBW.out.size)⟩
      · have HO := Lib.hid hiA
        have HFA : Hid (fits A = false) := Lib.hid (by unfold fits; unfold inI at hiA; exact decide_eq_false hiA)
        clear hiA
        refine Calls.mono (num.mul_over _ _ _ HI.out.1 HI.out.2.1 (by rw [HA.out]; exact HO.out)) ?_
        rintro e7 W' ⟨rfl, rfl⟩
        have hu : u = (0, 3) := by rw [← HU.out]; unfold worth; rw [HC.out]; simp [HA.out, HB.out, HE1.out, HFA.out]
        subst hu
        clear HU
        go_wp2_with fail
        exact bodyPost_ret (v := .tuple #[.int .i64 0, .int .i64 3]) (by simp [results, Try.results72, go_sem]) rfl ⟨rfl, HBW.out.trans (HB0_1.out.mono HBW.out.size)⟩
theorem worth_is (i a y d q p f ph m r v : Int) (g : Bool) {n e : Int} (hf : (⟨i, a, y, d, q, p, f, ph, m, r, v, g⟩ : Or).fine) (h : worth ⟨i, a, y, d, q, p, f, ph, m, r, v, g⟩ = (n, e)) (w : World) : Calls Try.prog 72 #[.agg #[.int .i64 i, .int .i64 a, .int .i64 y, .int .i64 d, .int .i64 q, .int .i64 p, .int .i64 f, .int .i64 ph, .int .i64 m, .int .i64 r, .int .i64 v, .bool g]] w fun e' w' => e' = .returned (.tuple #[.int .i64 n, .int .i64 e]) ∧ Below w.heap.size w w' := by
  have key := worth_any i a y d q p f ph m r v g hf w
  rw [h] at key
  exact key

end Go.Proofs.Ytiljgndgffoloab.order
end
