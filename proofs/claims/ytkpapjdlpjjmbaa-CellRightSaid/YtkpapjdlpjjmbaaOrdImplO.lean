/-
  The contract of the landed order's Open.
-/
import Derived.Test.YtkpapjdlpjjmbaaOrdImpl1
import Derived.Test.YtkpapjdlpjjmbaaNumMax
import Derived.Test.YtkpapjdlpjjmbaaOwn
import Derived.Deep.DeepCutAuto
import Derived.BigQuiet
namespace Go.Proofs.Ytkpapjdlpjjmbaa.order
open Go.RowKit Go.Proofs.Ytkpapjdlpjjmbaa
set_option linter.unusedVariables false
set_option linter.unusedSimpArgs false
set_option maxRecDepth 20000
set_option maxHeartbeats 8000000

theorem open_any (i a y d q p f ph m r v : Int) (g : Bool) (hf : (⟨i, a, y, d, q, p, f, ph, m, r, v, g⟩ : Or).fine) (w : World) : Calls Try.prog 20 #[.agg #[.int .i64 i, .int .i64 a, .int .i64 y, .int .i64 d, .int .i64 q, .int .i64 p, .int .i64 f, .int .i64 ph, .int .i64 m, .int .i64 r, .int .i64 v, .bool g]] w fun e w' => e = .returned (.int .i64 (open_ ⟨i, a, y, d, q, p, f, ph, m, r, v, g⟩)) ∧ Below w.heap.size w w' := by
  obtain ⟨W0, HW0⟩ : ∃ W, Hid ((w.alloc (.cells #[.int .i64 i, .int .i64 a, .int .i64 y, .int .i64 d, .int .i64 q, .int .i64 p, .int .i64 f, .int .i64 ph, .int .i64 m, .int .i64 r, .int .i64 v, .bool g] 25)) = W) := ⟨_, Lib.hid rfl⟩
  have HBW : Hid (Below w.heap.size w W0) := Lib.hid (by rw [← HW0.out]; exact (Below.refl _ _).alloc (by simp) _)
  have HX0 : Hid (∀ W, Below W0.heap.size W0 W → W.heap[w.heap.size]? = some (.cells #[.int .i64 i, .int .i64 a, .int .i64 y, .int .i64 d, .int .i64 q, .int .i64 p, .int .i64 f, .int .i64 ph, .int .i64 m, .int .i64 r, .int .i64 v, .bool g] 25 (0, 0))) := Lib.hid (fun W hb => (hb.block _ (by rw [← HW0.out]; simp; try omega)).trans (by rw [← HW0.out]; have := heap_alloc_new w (.cells #[.int .i64 i, .int .i64 a, .int .i64 y, .int .i64 d, .int .i64 q, .int .i64 p, .int .i64 f, .int .i64 ph, .int .i64 m, .int .i64 r, .int .i64 v, .bool g] 25); exact this))
  have HF := Lib.hid hf
  obtain ⟨c, HC⟩ : ∃ x, Hid (right ⟨i, a, y, d, q, p, f, ph, m, r, v, g⟩ = x) := ⟨_, Lib.hid rfl⟩
  obtain ⟨u, HU⟩ : ∃ u, Hid (open_ ⟨i, a, y, d, q, p, f, ph, m, r, v, g⟩ = u) := ⟨_, Lib.hid rfl⟩
  rw [HU.out]
  clear hf
  go_enter Try.func20, Try.ntmps20
  go_wp2_with fail
  refine Calls.mono (right_is i a y d q p f ph m r v g HF.out HC.out _) ?_
  rintro e1 W1 ⟨rfl, hb⟩
  rw [HW0.out] at hb
  have HB0_1 : Hid (Below W0.heap.size W0 W1) := Lib.hid (hb)
  clear hb
  rcases c with _ | _
  · have hu : u = 0 := by rw [← HU.out]; unfold open_; rw [HC.out]; simp []
    subst hu
    clear HU
    obtain ⟨k_0, k_1, k_2, k_3, k_4, k_5, k_6, k_7, k_8, k_9, k_10, k_11⟩ := cells12 (HX0.out W1 HB0_1.out)
    go_wp2_with fail
    go_ret
    exact ⟨rfl, HBW.out.trans (HB0_1.out.mono HBW.out.size)⟩
  · rcases eq_cases ph 3 with ⟨HE1, he1, hf1⟩ | ⟨HE1, he1, hf1⟩
    · have hu : u = 0 := by rw [← HU.out]; unfold open_; rw [HC.out]; simp [HE1.out]
      subst hu
      clear HU
      obtain ⟨k_0, k_1, k_2, k_3, k_4, k_5, k_6, k_7, k_8, k_9, k_10, k_11⟩ := cells12 (HX0.out W1 HB0_1.out)
      go_wp2_with fail
      go_ret
      exact ⟨rfl, HBW.out.trans (HB0_1.out.mono HBW.out.size)⟩
    · have hr := right_iff.1 HC.out
      unfold Rightly at hr
      simp only at hr
      have hm := HF.out
      simp only [Or.fine, frame.inR] at hm
      have h1 : IntKind.i64.wrap (q - f) = q - f := IntWalk.i64_in _ (by omega)
      have h2 : IntKind.i64.wrap (m - f) = m - f := IntWalk.i64_in _ (by omega)
      have h3 : 0 ≤ f := by omega
      have h4 : f ≤ q := by omega
      have h5 : q ≤ 9223372036854775807 := by omega
      have h6 : m ≤ 9223372036854775807 := by omega
      have h7 : 0 ≤ m := by omega
      clear hr hm
      by_cases hl2 : q < m
      · have hu : u = (m - f) := by rw [← HU.out]; unfold open_; rw [HC.out]; simp [HE1.out, hl2]
        subst hu
        clear HU
        have hmx : max q m = m := by omega
        have hmc : ∀ W, Calls Try.prog 30 #[.int .i64 q, .int .i64 m] W fun e w' => e = .returned (.int .i64 m) ∧ W = w' := fun W => by have := num.max_any q m W (by unfold inI; omega) (by unfold inI; omega); rw [hmx] at this; exact this
        obtain ⟨k_0, k_1, k_2, k_3, k_4, k_5, k_6, k_7, k_8, k_9, k_10, k_11⟩ := cells12 (HX0.out W1 HB0_1.out)
        go_upto_region 3 with fail
        go_quiet (first | (go_at_call 30; with_reducible exact quietL (hmc _)) | fail)
        go_wp2_with fail
        go_ret
        exact ⟨rfl, below_drewN (HBW.out.trans (HB0_1.out.mono HBW.out.size)) _⟩
      · have hn2 : m ≤ q := by omega
        have hu : u = (q - f) := by rw [← HU.out]; unfold open_; rw [HC.out]; simp [HE1.out, hl2]
        subst hu
        clear HU
        have hmx : max q m = q := by omega
        have hmc : ∀ W, Calls Try.prog 30 #[.int .i64 q, .int .i64 m] W fun e w' => e = .returned (.int .i64 q) ∧ W = w' := fun W => by have := num.max_any q m W (by unfold inI; omega) (by unfold inI; omega); rw [hmx] at this; exact this
        obtain ⟨k_0, k_1, k_2, k_3, k_4, k_5, k_6, k_7, k_8, k_9, k_10, k_11⟩ := cells12 (HX0.out W1 HB0_1.out)
        go_upto_region 3 with fail
        go_quiet (first | (go_at_call 30; with_reducible exact quietL (hmc _)) | fail)
        go_wp2_with fail
        go_ret
        exact ⟨rfl, below_drewN (HBW.out.trans (HB0_1.out.mono HBW.out.size)) _⟩
theorem open_is (i a y d q p f ph m r v : Int) (g : Bool) {n : Int} (hf : (⟨i, a, y, d, q, p, f, ph, m, r, v, g⟩ : Or).fine) (h : open_ ⟨i, a, y, d, q, p, f, ph, m, r, v, g⟩ = n) (w : World) : Calls Try.prog 20 #[.agg #[.int .i64 i, .int .i64 a, .int .i64 y, .int .i64 d, .int .i64 q, .int .i64 p, .int .i64 f, .int .i64 ph, .int .i64 m, .int .i64 r, .int .i64 v, .bool g]] w fun e w' => e = .returned (.int .i64 n) ∧ Below w.heap.size w w' := by
  have key := open_any i a y d q p f ph m r v g hf w
  rw [h] at key
  exact key

end Go.Proofs.Ytkpapjdlpjjmbaa.order
