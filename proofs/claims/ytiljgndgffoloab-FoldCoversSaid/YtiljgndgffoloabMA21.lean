/-
  CellImplR, LimImplR, LimImplA
-/
import Derived.Test.YtiljgndgffoloabMA11
import Derived.Test.YtiljgndgffoloabMA10
import Derived.Test.YtiljgndgffoloabMA20
import Derived.Test.YtiljgndgffoloabMA05
import Derived.Test.YtiljgndgffoloabMA17
import Derived.Deep.DeepCutAuto
import Derived.Deep.DrawnRows
import Derived.Deep.RegionHeld
import Derived.Test.YtiljgndgffoloabMA13
section
namespace Go.Proofs.Ytiljgndgffoloab.cell
open Go.RowKit Go.Proofs.Ytiljgndgffoloab
open Go.Proofs.Ytiljgndgffoloab.order (eq_cases)
attribute [local go_sem] undef
attribute [local go_sem ↓] Go.wp_at_zero Go.wp_at_succ
set_option linter.unusedVariables false
set_option linter.unusedSimpArgs false
set_option maxRecDepth 20000
set_option maxHeartbeats 8000000

theorem of_any (cp cb cs cn : Int) (hf : (⟨cp, cb, cs, cn⟩ : Ce).fine) (w : World) : Calls Try.prog 26 #[.agg #[.int .i64 cp, .int .i64 cb, .int .i64 cs, .int .i64 cn]] w fun e w' => e = .returned (.tuple #[.agg (xc (of_ ⟨cp, cb, cs, cn⟩).1), .int .i64 (of_ ⟨cp, cb, cs, cn⟩).2]) ∧ Below w.heap.size w w' := by
  obtain ⟨W0, HW0⟩ : ∃ W, Hid (((w.alloc (.cells #[.int .i64 cp, .int .i64 cb, .int .i64 cs, .int .i64 cn] 49)).alloc (.cells #[.int .i64 0, .int .i64 0, .int .i64 0] 43)) = W) := ⟨_, Lib.hid rfl⟩
  have HBw0 : Hid (Below w.heap.size w W0) := Lib.hid (by rw [← HW0.out]; exact ((Below.refl _ _).alloc (by simp) _).alloc (by simp; try omega) _)
  have HX0_0 : Hid (∀ W, Below W0.heap.size W0 W → W.heap[w.heap.size]? = some (.cells #[.int .i64 cp, .int .i64 cb, .int .i64 cs, .int .i64 cn] 49 (0, 0))) := Lib.hid (fun W hb => (hb.block _ (by rw [← HW0.out]; simp; try omega)).trans (by rw [← HW0.out]; refine (Below.heap_alloc _ _ _ (by simp; try omega)).trans ?_; have := heap_alloc_new w (.cells #[.int .i64 cp, .int .i64 cb, .int .i64 cs, .int .i64 cn] 49); exact this))
  have HX1_0 : Hid (∀ W, Below W0.heap.size W0 W → W.heap[w.heap.size + 1]? = some (.cells #[.int .i64 0, .int .i64 0, .int .i64 0] 43 (0, 0))) := Lib.hid (fun W hb => (hb.block _ (by rw [← HW0.out]; simp; try omega)).trans (by rw [← HW0.out]; have := heap_alloc_new (w.alloc (.cells #[.int .i64 cp, .int .i64 cb, .int .i64 cs, .int .i64 cn] 49)) (.cells #[.int .i64 0, .int .i64 0, .int .i64 0] 43); simp only [World.size_alloc] at this; exact this))
  have HRcp : Hid (inI cp) := Lib.hid (by simp only [Ce.fine, frame.inR] at hf; unfold inI; omega)
  have HRcb : Hid (inI cb) := Lib.hid (by simp only [Ce.fine, frame.inR] at hf; unfold inI; omega)
  have HRcs : Hid (inI cs) := Lib.hid (by simp only [Ce.fine, frame.inR] at hf; unfold inI; omega)
  have HRcn : Hid (inI cn) := Lib.hid (by simp only [Ce.fine, frame.inR] at hf; unfold inI; omega)
  clear hf
  obtain ⟨u, HU⟩ : ∃ u, Hid (of_ ⟨cp, cb, cs, cn⟩ = u) := ⟨_, Lib.hid rfl⟩
  rw [HU.out]
  go_enter Try.func26, Try.ntmps26
  go_upto_region 1 with fail
  rw [HW0.out]
  by_cases hlz1 : cb < 0
  · have HLz1 := Lib.hid hlz1
    have hu : u = (⟨0, 0, 0⟩, 1) := by
      rw [← HU.out]
      have x0 := HLz1.out
      simp only [inI] at *
      have hr : ¬ right ⟨cp, cb, cs, cn⟩ = true := fun hr => by have hr2 := right_iff.1 hr; unfold Rightly at hr2; simp only at hr2; omega
      rw [of_, if_neg hr]
    subst hu
    clear HU
    obtain ⟨k1_0, k1_1, k1_2, k1_3⟩ := cells4 (HX0_0.out W0 (Below.refl _ _))
    have hwh : World.whole W0 (w.heap.size + 1) 3 43 := whole_of (HX1_0.out W0 (Below.refl _ _)) rfl
    go_wp2_with (refine wpList_store_whole 43 (.tmp 2) (.tmp 20) (w.heap.size + 1) 3 _ 43 (by rfl) (by rfl) hwh (by rfl) (by kernel_rfl) (by kernel_rfl) ?_)
    obtain ⟨v0, v1, v2⟩ := cells3 (setAll_self (vs := #[.int .i64 0, .int .i64 0, .int .i64 0]) hwh rfl)
    exact bodyPost_ret (v := .tuple #[.agg #[.int .i64 0, .int .i64 0, .int .i64 0], .int .i64 1]) (by simp [results, Try.results26, go_sem, v0, v1, v2]) rfl ⟨rfl, setAll_below (HBw0.out) (by first | omega | (simp; done) | (simp; omega))⟩
  · have HLz1 := Lib.hid hlz1
    have hnz1 : 0 ≤ cb := by omega
    clear hlz1
    by_cases hlz2 : cs < 0
    · have HLz2 := Lib.hid hlz2
      have hu : u = (⟨0, 0, 0⟩, 1) := by
        rw [← HU.out]
        have x0 := HLz1.out
        have x1 := HLz2.out
        simp only [inI] at *
        have hr : ¬ right ⟨cp, cb, cs, cn⟩ = true := fun hr => by have hr2 := right_iff.1 hr; unfold Rightly at hr2; simp only at hr2; omega
        rw [of_, if_neg hr]
      subst hu
      clear HU
      obtain ⟨k1_0, k1_1, k1_2, k1_3⟩ := cells4 (HX0_0.out W0 (Below.refl _ _))
      have hwh : World.whole W0 (w.heap.size + 1) 3 43 := whole_of (HX1_0.out W0 (Below.refl _ _)) rfl
      go_wp2_with (refine wpList_store_whole 43 (.tmp 2) (.tmp 20) (w.heap.size + 1) 3 _ 43 (by rfl) (by rfl) hwh (by rfl) (by kernel_rfl) (by kernel_rfl) ?_)
      obtain ⟨v0, v1, v2⟩ := cells3 (setAll_self (vs := #[.int .i64 0, .int .i64 0, .int .i64 0]) hwh rfl)
      exact bodyPost_ret (v := .tuple #[.agg #[.int .i64 0, .int .i64 0, .int .i64 0], .int .i64 1]) (by simp [results, Try.results26, go_sem, v0, v1, v2]) rfl ⟨rfl, setAll_below (HBw0.out) (by first | omega | (simp; done) | (simp; omega))⟩
    · have HLz2 := Lib.hid hlz2
      have hnz2 : 0 ≤ cs := by omega
      clear hlz2
      by_cases hlz3 : cn < 0
      · have HLz3 := Lib.hid hlz3
        have hu : u = (⟨0, 0, 0⟩, 1) := by
          rw [← HU.out]
          have x0 := HLz1.out
          have x1 := HLz2.out
          have x2 := HLz3.out
          simp only [inI] at *
          have hr : ¬ right ⟨cp, cb, cs, cn⟩ = true := fun hr => by have hr2 := right_iff.1 hr; unfold Rightly at hr2; simp only at hr2; omega
          rw [of_, if_neg hr]
        subst hu
        clear HU
        obtain ⟨k1_0, k1_1, k1_2, k1_3⟩ := cells4 (HX0_0.out W0 (Below.refl _ _))
        have hwh : World.whole W0 (w.heap.size + 1) 3 43 := whole_of (HX1_0.out W0 (Below.refl _ _)) rfl
        go_wp2_with (refine wpList_store_whole 43 (.tmp 2) (.tmp 20) (w.heap.size + 1) 3 _ 43 (by rfl) (by rfl) hwh (by rfl) (by kernel_rfl) (by kernel_rfl) ?_)
        obtain ⟨v0, v1, v2⟩ := cells3 (setAll_self (vs := #[.int .i64 0, .int .i64 0, .int .i64 0]) hwh rfl)
        exact bodyPost_ret (v := .tuple #[.agg #[.int .i64 0, .int .i64 0, .int .i64 0], .int .i64 1]) (by simp [results, Try.results26, go_sem, v0, v1, v2]) rfl ⟨rfl, setAll_below (HBw0.out) (by first | omega | (simp; done) | (simp; omega))⟩
      · have HLz3 := Lib.hid hlz3
        have hnz3 : 0 ≤ cn := by omega
        clear hlz3
        by_cases hii4 : inI (cp + cb)
        · have HIi4 := Lib.hid hii4
          clear hii4
          obtain ⟨k1_0, k1_1, k1_2, k1_3⟩ := cells4 (HX0_0.out W0 (Below.refl _ _))
          go_wp2_with fail
          refine Calls.mono (num.add_ok cp cb _ HRcp.out HRcb.out HIi4.out) ?_
          rintro e9 W9 ⟨rfl, rfl⟩
          by_cases hii6 : inI (cs - cp)
          · have HIi6 := Lib.hid hii6
            clear hii6
            clear k1_0 k1_1 k1_2 k1_3
            obtain ⟨k1_0, k1_1, k1_2, k1_3⟩ := cells4 (HX0_0.out W0 (Below.refl _ _))
            go_wp2_with fail
            refine Calls.mono (num.sub_ok cs cp _ HRcs.out HRcp.out HIi6.out) ?_
            rintro e9 W9 ⟨rfl, rfl⟩
            have hu : u = (⟨(cp + cb), (cs - cp), cn⟩, 0) := by
              rw [← HU.out]
              have x0 := HLz1.out
              have x1 := HLz2.out
              have x2 := HLz3.out
              have x3 := HIi4.out
              have x4 := HIi6.out
              simp only [inI] at *
              have hr : right ⟨cp, cb, cs, cn⟩ = true := right_iff.2 (by unfold Rightly; simp only; omega)
              rw [of_, if_pos hr]
            subst hu
            clear HU
            clear k1_0 k1_1 k1_2 k1_3
            obtain ⟨k1_0, k1_1, k1_2, k1_3⟩ := cells4 (HX0_0.out W0 (Below.refl _ _))
            have hwh : World.whole W0 (w.heap.size + 1) 3 43 := whole_of (HX1_0.out W0 (Below.refl _ _)) rfl
            go_wp2_with (refine wpList_store_whole 43 (.tmp 2) (.tmp 47) (w.heap.size + 1) 3 _ 43 (by rfl) (by rfl) hwh (by rfl) (by kernel_rfl) (by kernel_rfl) ?_)
            obtain ⟨v0, v1, v2⟩ := cells3 (setAll_self (vs := #[.int .i64 (cp + cb), .int .i64 (cs - cp), .int .i64 cn]) hwh rfl)
            exact bodyPost_ret (v := .tuple #[.agg #[.int .i64 (cp + cb), .int .i64 (cs - cp), .int .i64 cn], .int .i64 0]) (by simp [results, Try.results26, go_sem, v0, v1, v2]) rfl ⟨rfl, setAll_below (HBw0.out) (by first | omega | (simp; done) | (simp; omega))⟩
          · have HIi6 := Lib.hid hii6
            clear hii6
            clear k1_0 k1_1 k1_2 k1_3
            obtain ⟨k1_0, k1_1, k1_2, k1_3⟩ := cells4 (HX0_0.out W0 (Below.refl _ _))
            go_wp2_with fail
            refine Calls.mono (num.sub_over cs cp _ HRcs.out HRcp.out HIi6.out) ?_
            rintro e9 W9 ⟨rfl, rfl⟩
            have hu : u = (⟨0, 0, 0⟩, 1) := by
              rw [← HU.out]
              have x0 := HLz1.out
              have x1 := HLz2.out
              have x2 := HLz3.out
              have x3 := HIi4.out
              have x4 := HIi6.out
              simp only [inI] at *
              have hr : ¬ right ⟨cp, cb, cs, cn⟩ = true := fun hr => by have hr2 := right_iff.1 hr; unfold Rightly at hr2; simp only at hr2; omega
              rw [of_, if_neg hr]
            subst hu
            clear HU
            clear k1_0 k1_1 k1_2 k1_3
            have hwh : World.whole W0 (w.heap.size + 1) 3 43 := whole_of (HX1_0.out W0 (Below.refl _ _)) rfl
            go_wp2_with (refine wpList_store_whole 43 (.tmp 2) (.tmp 42) (w.heap.size + 1) 3 _ 43 (by rfl) (by rfl) hwh (by rfl) (by kernel_rfl) (by kernel_rfl) ?_)
            obtain ⟨v0, v1, v2⟩ := cells3 (setAll_self (vs := #[.int .i64 0, .int .i64 0, .int .i64 0]) hwh rfl)
            exact bodyPost_ret (v := .tuple #[.agg #[.int .i64 0, .int .i64 0, .int .i64 0], .int .i64 1]) (by simp [results, Try.results26, go_sem, v0, v1, v2]) rfl ⟨rfl, setAll_below (HBw0.out) (by first | omega | (simp; done) | (simp; omega))⟩
        · have HIi4 := Lib.hid hii4
          clear hii4
          obtain ⟨k1_0, k1_1, k1_2, k1_3⟩ := cells4 (HX0_0.out W0 (Below.refl _ _))
          go_wp2_with fail
          refine Calls.mono (num.add_over cp cb _ HRcp.out HRcb.out HIi4.out) ?_
          rintro e9 W9 ⟨rfl, rfl⟩
          have hu : u = (⟨0, 0, 0⟩, 1) := by
            rw [← HU.out]
            have x0 := HLz1.out
            have x1 := HLz2.out
            have x2 := HLz3.out
            have x3 := HIi4.out
            simp only [inI] at *
            have hr : ¬ right ⟨cp, cb, cs, cn⟩ = true := fun hr => by have hr2 := right_iff.1 hr; unfold Rightly at hr2; simp only at hr2; omega
            rw [of_, if_neg hr]
          subst hu
          clear HU
          clear k1_0 k1_1 k1_2 k1_3
          have hwh : World.whole W0 (w.heap.size + 1) 3 43 := whole_of (HX1_0.out W0 (Below.refl _ _)) rfl
          go_wp2_with (refine wpList_store_whole 43 (.tmp 2) (.tmp 31) (w.heap.size + 1) 3 _ 43 (by rfl) (by rfl) hwh (by rfl) (by kernel_rfl) (by kernel_rfl) ?_)
          obtain ⟨v0, v1, v2⟩ := cells3 (setAll_self (vs := #[.int .i64 0, .int .i64 0, .int .i64 0]) hwh rfl)
          exact bodyPost_ret (v := .tuple #[.agg #[.int .i64 0, .int .i64 0, .int .i64 0], .int .i64 1]) (by simp [results, Try.results26, go_sem, v0, v1, v2]) rfl ⟨rfl, setAll_below (HBw0.out) (by first | omega | (simp; done) | (simp; omega))⟩
theorem of_is (cp cb cs cn : Int) {l' s' n' e : Int} (hf : (⟨cp, cb, cs, cn⟩ : Ce).fine) (h : of_ ⟨cp, cb, cs, cn⟩ = (⟨l', s', n'⟩, e)) (w : World) : Calls Try.prog 26 #[.agg #[.int .i64 cp, .int .i64 cb, .int .i64 cs, .int .i64 cn]] w fun e' w' => e' = .returned (.tuple #[.agg #[.int .i64 l', .int .i64 s', .int .i64 n'], .int .i64 e]) ∧ Below w.heap.size w w' := by
  have key := of_any cp cb cs cn hf w
  rw [h] at key
  exact key

theorem of_yes {c : Ce} {x : Ex} (h : of_ c = (x, 0)) : right c = true := by
  unfold of_ at h
  split at h
  · assumption
  · simp at h
theorem of_no {c : Ce} {x : Ex} {e : Int} (h : of_ c = (x, e)) (he : e ≠ 0) : right c = false := by
  unfold of_ at h
  split at h
  · simp only [Prod.mk.injEq] at h; omega
  · rename_i hn; simpa using hn

theorem right_any (cp cb cs cn : Int) (hf : (⟨cp, cb, cs, cn⟩ : Ce).fine) (w : World) : Calls Try.prog 32 #[.agg #[.int .i64 cp, .int .i64 cb, .int .i64 cs, .int .i64 cn]] w fun e w' => e = .returned (.bool (right ⟨cp, cb, cs, cn⟩)) ∧ Below w.heap.size w w' := by
  obtain ⟨W0, HW0⟩ : ∃ W, Hid ((w.alloc (.cells #[.int .i64 cp, .int .i64 cb, .int .i64 cs, .int .i64 cn] 49)) = W) := ⟨_, Lib.hid rfl⟩
  have HBw0 : Hid (Below w.heap.size w W0) := Lib.hid (by rw [← HW0.out]; exact (Below.refl _ _).alloc (by simp) _)
  have HX0_0 : Hid (∀ W, Below W0.heap.size W0 W → W.heap[w.heap.size]? = some (.cells #[.int .i64 cp, .int .i64 cb, .int .i64 cs, .int .i64 cn] 49 (0, 0))) := Lib.hid (fun W hb => (hb.block _ (by rw [← HW0.out]; simp; try omega)).trans (by rw [← HW0.out]; have := heap_alloc_new w (.cells #[.int .i64 cp, .int .i64 cb, .int .i64 cs, .int .i64 cn] 49); exact this))
  have HF := Lib.hid hf
  clear hf
  obtain ⟨u, HU⟩ : ∃ u, Hid (right ⟨cp, cb, cs, cn⟩ = u) := ⟨_, Lib.hid rfl⟩
  rw [HU.out]
  go_enter Try.func32, Try.ntmps32
  go_upto_region 1 with fail
  rw [HW0.out]
  obtain ⟨ol, os, on_, oe, HO⟩ : ∃ x y z e, Hid (of_ ⟨cp, cb, cs, cn⟩ = (⟨x, y, z⟩, e)) := ⟨_, _, _, _, Lib.hid rfl⟩
  obtain ⟨k1_0, k1_1, k1_2, k1_3⟩ := cells4 (HX0_0.out W0 (Below.refl _ _))
  go_wp2_with fail
  refine Calls.mono (of_is cp cb cs cn HF.out HO.out _) ?_
  rintro e1 W1 ⟨rfl, hb⟩
  have HBw1 : Hid (Below w.heap.size w W1) := Lib.hid (HBw0.out.trans ((hb : Below W0.heap.size W0 W1).mono HBw0.out.size))
  have HB0_1 : Hid (Below W0.heap.size W0 W1) := Lib.hid (hb)
  clear hb
  clear k1_0 k1_1 k1_2 k1_3
  go_upto_region 2 with fail
  obtain ⟨W2, HW2⟩ : ∃ W, Hid ((W1.alloc (.cells #[.int .i64 ol, .int .i64 os, .int .i64 on_] 43)) = W) := ⟨_, Lib.hid rfl⟩
  have NE_2_3_1 : Hid (w.heap.size ≠ W1.heap.size) := Lib.hid (Nat.ne_of_lt (Array.getElem?_eq_some_iff.1 (HX0_0.out W1 HB0_1.out)).1)
  have LE_2 : Hid (w.heap.size ≤ W1.heap.size) := Lib.hid HBw1.out.size
  have HBw2 : Hid (Below w.heap.size w W2) := Lib.hid (HBw1.out.trans ((by rw [← HW2.out]; exact (Below.refl _ _).alloc (Nat.le_refl _) _ : Below W1.heap.size W1 W2).mono HBw1.out.size))
  have HB0_2 : Hid (Below W0.heap.size W0 W2) := Lib.hid (HB0_1.out.trans ((by rw [← HW2.out]; exact (Below.refl _ _).alloc (Nat.le_refl _) _ : Below W1.heap.size W1 W2).mono HB0_1.out.size))
  have HB1_2 : Hid (Below W1.heap.size W1 W2) := Lib.hid (by rw [← HW2.out]; exact (Below.refl _ _).alloc (Nat.le_refl _) _)
  have HX3_2 : Hid (∀ W, Below W2.heap.size W2 W → W.heap[W1.heap.size]? = some (.cells #[.int .i64 ol, .int .i64 os, .int .i64 on_] 43 (0, 0))) := Lib.hid (fun W hb => (hb.block _ (by rw [← HW2.out]; simp)).trans (by rw [← HW2.out]; exact heap_alloc_new _ _))
  rw [HW2.out]
  rcases eq_cases oe 0 with ⟨HEz1, hez1, hfz1⟩ | ⟨HEz1, hez1, hfz1⟩
  · obtain rfl : oe = 0 := HEz1.out
    have hu : u = true := by
      rw [← HU.out]
      exact of_yes HO.out
    subst hu
    clear HU
    go_wp2_with fail
    go_ret
    exact ⟨rec.retB (by first | rfl | (simp; done) | (simp; omega)), HBw2.out⟩
  · have hu : u = false := by
      rw [← HU.out]
      have x0 := HEz1.out
      exact of_no HO.out HEz1.out
    subst hu
    clear HU
    go_wp2_with fail
    go_ret
    exact ⟨rec.retB (by first | rfl | (simp; done) | (simp; omega)), HBw2.out⟩
theorem right_is (cp cb cs cn : Int) {b : Bool} (hf : (⟨cp, cb, cs, cn⟩ : Ce).fine) (h : right ⟨cp, cb, cs, cn⟩ = b) (w : World) : Calls Try.prog 32 #[.agg #[.int .i64 cp, .int .i64 cb, .int .i64 cs, .int .i64 cn]] w fun e w' => e = .returned (.bool b) ∧ Below w.heap.size w w' := by
  have key := right_any cp cb cs cn hf w
  rw [h] at key
  exact key


end Go.Proofs.Ytiljgndgffoloab.cell
end
section
namespace Go.Proofs.Ytiljgndgffoloab.limit
open Go.RowKit Go.Proofs.Ytiljgndgffoloab Go.Proofs.Ytiljgndgffoloab.cell
open Go.Proofs.Ytiljgndgffoloab.order (eq_cases)
set_option linter.unusedVariables false
set_option linter.unusedSimpArgs false
set_option maxRecDepth 20000
set_option maxHeartbeats 8000000

theorem right_any (al as_ an : Int) (w : World) : Calls Try.prog 23 #[.agg #[.int .i64 al, .int .i64 as_, .int .i64 an]] w fun e w' => e = .returned (.bool (limit.right ⟨al, as_, an⟩)) ∧ Below w.heap.size w w' := by
  obtain ⟨W0, HW0⟩ : ∃ W, Hid ((w.alloc (.cells #[.int .i64 al, .int .i64 as_, .int .i64 an] 43)) = W) := ⟨_, Lib.hid rfl⟩
  have HBw0 : Hid (Below w.heap.size w W0) := Lib.hid (by rw [← HW0.out]; exact (Below.refl _ _).alloc (by simp) _)
  have HX0_0 : Hid (∀ W, Below W0.heap.size W0 W → W.heap[w.heap.size]? = some (.cells #[.int .i64 al, .int .i64 as_, .int .i64 an] 43 (0, 0))) := Lib.hid (fun W hb => (hb.block _ (by rw [← HW0.out]; simp; try omega)).trans (by rw [← HW0.out]; have := heap_alloc_new w (.cells #[.int .i64 al, .int .i64 as_, .int .i64 an] 43); exact this))
  obtain ⟨u, HU⟩ : ∃ u, Hid (limit.right ⟨al, as_, an⟩ = u) := ⟨_, Lib.hid rfl⟩
  rw [HU.out]
  go_enter Try.func23, Try.ntmps23
  go_upto_region 1 with fail
  rw [HW0.out]
  by_cases hlz1 : al < 0
  · have HLz1 := Lib.hid hlz1
    have hu : u = false := by
      rw [← HU.out]
      have x0 := HLz1.out
      simp only [limit.right, Bool.or_eq_true, Bool.or_eq_false_iff, decide_eq_true_eq, decide_eq_false_iff_not, true_or, or_true, true_and, and_true, Bool.or_true, Bool.true_or, Bool.or_false, Bool.false_or]
      try omega
    subst hu
    clear HU
    obtain ⟨k1_0, k1_1, k1_2⟩ := cells3 (HX0_0.out W0 (Below.refl _ _))
    go_wp2_with fail
    go_ret
    exact ⟨rec.retB (by first | rfl | (simp; done) | (simp; omega)), HBw0.out⟩
  · have HLz1 := Lib.hid hlz1
    have hnz1 : 0 ≤ al := by omega
    clear hlz1
    by_cases hlz2 : as_ < 0
    · have HLz2 := Lib.hid hlz2
      have hu : u = false := by
        rw [← HU.out]
        have x0 := HLz1.out
        have x1 := HLz2.out
        simp only [limit.right, Bool.or_eq_true, Bool.or_eq_false_iff, decide_eq_true_eq, decide_eq_false_iff_not, true_or, or_true, true_and, and_true, Bool.or_true, Bool.true_or, Bool.or_false, Bool.false_or]
        try omega
      subst hu
      clear HU
      obtain ⟨k1_0, k1_1, k1_2⟩ := cells3 (HX0_0.out W0 (Below.refl _ _))
      go_wp2_with fail
      go_ret
      exact ⟨rec.retB (by first | rfl | (simp; done) | (simp; omega)), HBw0.out⟩
    · have HLz2 := Lib.hid hlz2
      have hnz2 : 0 ≤ as_ := by omega
      clear hlz2
      by_cases hlz3 : an < 0
      · have HLz3 := Lib.hid hlz3
        have hu : u = false := by
          rw [← HU.out]
          have x0 := HLz1.out
          have x1 := HLz2.out
          have x2 := HLz3.out
          simp only [limit.right, Bool.or_eq_true, Bool.or_eq_false_iff, decide_eq_true_eq, decide_eq_false_iff_not, true_or, or_true, true_and, and_true, Bool.or_true, Bool.true_or, Bool.or_false, Bool.false_or]
          try omega
        subst hu
        clear HU
        obtain ⟨k1_0, k1_1, k1_2⟩ := cells3 (HX0_0.out W0 (Below.refl _ _))
        go_wp2_with fail
        go_ret
        exact ⟨rec.retB (by first | rfl | (simp; done) | (simp; omega)), HBw0.out⟩
      · have HLz3 := Lib.hid hlz3
        have hnz3 : 0 ≤ an := by omega
        clear hlz3
        have hu : u = true := by
          rw [← HU.out]
          have x0 := HLz1.out
          have x1 := HLz2.out
          have x2 := HLz3.out
          simp only [limit.right, Bool.or_eq_true, Bool.or_eq_false_iff, decide_eq_true_eq, decide_eq_false_iff_not, true_or, or_true, true_and, and_true, Bool.or_true, Bool.true_or, Bool.or_false, Bool.false_or]
          try omega
        subst hu
        clear HU
        obtain ⟨k1_0, k1_1, k1_2⟩ := cells3 (HX0_0.out W0 (Below.refl _ _))
        go_wp2_with fail
        go_ret
        exact ⟨rec.retB (by first | rfl | (simp; done) | (simp; omega)), HBw0.out⟩
theorem right_is (al as_ an : Int) {b : Bool} (h : limit.right ⟨al, as_, an⟩ = b) (w : World) : Calls Try.prog 23 #[.agg #[.int .i64 al, .int .i64 as_, .int .i64 an]] w fun e w' => e = .returned (.bool b) ∧ Below w.heap.size w w' := by
  have key := right_any al as_ an w
  rw [h] at key
  exact key

end Go.Proofs.Ytiljgndgffoloab.limit
end
section
namespace Go.Proofs.Ytiljgndgffoloab.limit
open Go.RowKit Go.Proofs.Ytiljgndgffoloab Go.Proofs.Ytiljgndgffoloab.cell
open Go.Proofs.Ytiljgndgffoloab.order (eq_cases)
set_option linter.unusedVariables false
set_option linter.unusedSimpArgs false
set_option maxRecDepth 20000
set_option maxHeartbeats 8000000

theorem cap0_any (a b c : Int) (w : World) : Calls Try.prog 82 #[.int .i64 a, .int .i64 b, .int .i64 c] w fun e w' => e = .returned (.bool (cap a b c)) ∧ w = w' := by
  unfold cap
  by_cases h1 : a < b
  · by_cases h2 : c < b
    · rw [show decide (a < b ∧ c < b) = true by simp [h1, h2]]
      go_enter Try.func82, Try.ntmps82
      go_wp2
      go_ret
      exact ⟨rec.retB (by first | rfl | (simp; done) | (simp; omega)), rfl⟩
    · rw [show decide (a < b ∧ c < b) = false by simp [h2]]
      go_enter Try.func82, Try.ntmps82
      go_wp2
      go_ret
      exact ⟨rec.retB (by first | rfl | (simp; done) | (simp; omega)), rfl⟩
  · rw [show decide (a < b ∧ c < b) = false by simp [h1]]
    go_enter Try.func82, Try.ntmps82
    go_wp2
    go_ret
    exact ⟨rec.retB (by first | rfl | (simp; done) | (simp; omega)), rfl⟩
theorem cap0_is (a b c : Int) {r : Bool} (h : cap a b c = r) (w : World) : Calls Try.prog 82 #[.int .i64 a, .int .i64 b, .int .i64 c] w fun e w' => e = .returned (.bool r) ∧ w = w' := by
  have key := cap0_any a b c w
  rw [h] at key
  exact key
theorem cap_is (x y z : Int) {b : Bool} (h : cap x y z = b) (w : World) : Calls Try.prog 82 #[.int .i64 x, .int .i64 y, .int .i64 z] w fun e w' => e = .returned (.bool b) ∧ Below w.heap.size w w' :=
  (cap0_is x y z h w).mono fun e w' ⟨he, hw⟩ => ⟨he, hw ▸ Below.refl _ _⟩
theorem against_any (al as_ an bl bs bn cl cs_ cn : Int) (w : World) : Calls Try.prog 81 #[.agg #[.int .i64 al, .int .i64 as_, .int .i64 an], .agg #[.int .i64 bl, .int .i64 bs, .int .i64 bn], .agg #[.int .i64 cl, .int .i64 cs_, .int .i64 cn]] w fun e w' => e = .returned (.bool (against ⟨al, as_, an⟩ ⟨bl, bs, bn⟩ ⟨cl, cs_, cn⟩)) ∧ Below w.heap.size w w' := by
  obtain ⟨W0, HW0⟩ : ∃ W, Hid ((((w.alloc (.cells #[.int .i64 al, .int .i64 as_, .int .i64 an] 43)).alloc (.cells #[.int .i64 bl, .int .i64 bs, .int .i64 bn] 43)).alloc (.cells #[.int .i64 cl, .int .i64 cs_, .int .i64 cn] 43)) = W) := ⟨_, Lib.hid rfl⟩
  have HBw0 : Hid (Below w.heap.size w W0) := Lib.hid (by rw [← HW0.out]; exact (((Below.refl _ _).alloc (by simp) _).alloc (by simp; try omega) _).alloc (by simp; try omega) _)
  have HX0_0 : Hid (∀ W, Below W0.heap.size W0 W → W.heap[w.heap.size]? = some (.cells #[.int .i64 al, .int .i64 as_, .int .i64 an] 43 (0, 0))) := Lib.hid (fun W hb => (hb.block _ (by rw [← HW0.out]; simp; try omega)).trans (by rw [← HW0.out]; refine (Below.heap_alloc _ _ _ (by simp; try omega)).trans ?_; refine (Below.heap_alloc _ _ _ (by simp; try omega)).trans ?_; have := heap_alloc_new w (.cells #[.int .i64 al, .int .i64 as_, .int .i64 an] 43); exact this))
  have HX1_0 : Hid (∀ W, Below W0.heap.size W0 W → W.heap[w.heap.size + 1]? = some (.cells #[.int .i64 bl, .int .i64 bs, .int .i64 bn] 43 (0, 0))) := Lib.hid (fun W hb => (hb.block _ (by rw [← HW0.out]; simp; try omega)).trans (by rw [← HW0.out]; refine (Below.heap_alloc _ _ _ (by simp; try omega)).trans ?_; have := heap_alloc_new (w.alloc (.cells #[.int .i64 al, .int .i64 as_, .int .i64 an] 43)) (.cells #[.int .i64 bl, .int .i64 bs, .int .i64 bn] 43); simp only [World.size_alloc] at this; exact this))
  have HX2_0 : Hid (∀ W, Below W0.heap.size W0 W → W.heap[w.heap.size + 1 + 1]? = some (.cells #[.int .i64 cl, .int .i64 cs_, .int .i64 cn] 43 (0, 0))) := Lib.hid (fun W hb => (hb.block _ (by rw [← HW0.out]; simp; try omega)).trans (by rw [← HW0.out]; have := heap_alloc_new ((w.alloc (.cells #[.int .i64 al, .int .i64 as_, .int .i64 an] 43)).alloc (.cells #[.int .i64 bl, .int .i64 bs, .int .i64 bn] 43)) (.cells #[.int .i64 cl, .int .i64 cs_, .int .i64 cn] 43); simp only [World.size_alloc] at this; exact this))
  obtain ⟨u, HU⟩ : ∃ u, Hid (against ⟨al, as_, an⟩ ⟨bl, bs, bn⟩ ⟨cl, cs_, cn⟩ = u) := ⟨_, Lib.hid rfl⟩
  rw [HU.out]
  go_enter Try.func81, Try.ntmps81
  go_upto_region 1 with fail
  rw [HW0.out]
  obtain ⟨cb1, HCb1⟩ : ∃ x, Hid (cap al bl cl = x) := ⟨_, Lib.hid rfl⟩
  rcases cb1 with _ | _
  · obtain ⟨k3_0, k3_1, k3_2⟩ := cells3 (HX0_0.out W0 (Below.refl _ _))
    obtain ⟨k4_0, k4_1, k4_2⟩ := cells3 (HX1_0.out W0 (Below.refl _ _))
    obtain ⟨k5_0, k5_1, k5_2⟩ := cells3 (HX2_0.out W0 (Below.refl _ _))
    go_wp2_with fail
    refine Calls.mono (cap0_is al bl cl HCb1.out _) ?_
    rintro e9 W9 ⟨rfl, rfl⟩
    obtain ⟨cb2, HCb2⟩ : ∃ x, Hid (cap as_ bs cs_ = x) := ⟨_, Lib.hid rfl⟩
    rcases cb2 with _ | _
    · clear k3_0 k3_1 k3_2 k4_0 k4_1 k4_2 k5_0 k5_1 k5_2
      obtain ⟨k3_0, k3_1, k3_2⟩ := cells3 (HX0_0.out W0 (Below.refl _ _))
      obtain ⟨k4_0, k4_1, k4_2⟩ := cells3 (HX1_0.out W0 (Below.refl _ _))
      obtain ⟨k5_0, k5_1, k5_2⟩ := cells3 (HX2_0.out W0 (Below.refl _ _))
      go_wp2_with fail
      refine Calls.mono (cap0_is as_ bs cs_ HCb2.out _) ?_
      rintro e9 W9 ⟨rfl, rfl⟩
      obtain ⟨cb3, HCb3⟩ : ∃ x, Hid (cap an bn cn = x) := ⟨_, Lib.hid rfl⟩
      rcases cb3 with _ | _
      · clear k3_0 k3_1 k3_2 k4_0 k4_1 k4_2 k5_0 k5_1 k5_2
        obtain ⟨k3_0, k3_1, k3_2⟩ := cells3 (HX0_0.out W0 (Below.refl _ _))
        obtain ⟨k4_0, k4_1, k4_2⟩ := cells3 (HX1_0.out W0 (Below.refl _ _))
        obtain ⟨k5_0, k5_1, k5_2⟩ := cells3 (HX2_0.out W0 (Below.refl _ _))
        go_wp2_with fail
        refine Calls.mono (cap0_is an bn cn HCb3.out _) ?_
        rintro e9 W9 ⟨rfl, rfl⟩
        have hu : u = false := by
          rw [← HU.out]
          simp only [against, Bool.or_eq_true, Bool.or_eq_false_iff, decide_eq_true_eq, decide_eq_false_iff_not, HCb1.out, HCb2.out, HCb3.out, true_or, or_true, true_and, and_true, Bool.or_true, Bool.true_or, Bool.or_false, Bool.false_or]
          try omega
        subst hu
        clear HU
        clear k3_0 k3_1 k3_2 k4_0 k4_1 k4_2 k5_0 k5_1 k5_2
        go_wp2_with fail
        go_ret
        exact ⟨rec.retB (by first | rfl | (simp; done) | (simp; omega)), HBw0.out⟩
      · clear k3_0 k3_1 k3_2 k4_0 k4_1 k4_2 k5_0 k5_1 k5_2
        obtain ⟨k3_0, k3_1, k3_2⟩ := cells3 (HX0_0.out W0 (Below.refl _ _))
        obtain ⟨k4_0, k4_1, k4_2⟩ := cells3 (HX1_0.out W0 (Below.refl _ _))
        obtain ⟨k5_0, k5_1, k5_2⟩ := cells3 (HX2_0.out W0 (Below.refl _ _))
        go_wp2_with fail
        refine Calls.mono (cap0_is an bn cn HCb3.out _) ?_
        rintro e9 W9 ⟨rfl, rfl⟩
        have hu : u = true := by
          rw [← HU.out]
          simp only [against, Bool.or_eq_true, Bool.or_eq_false_iff, decide_eq_true_eq, decide_eq_false_iff_not, HCb1.out, HCb2.out, HCb3.out, true_or, or_true, true_and, and_true, Bool.or_true, Bool.true_or, Bool.or_false, Bool.false_or]
          try omega
        subst hu
        clear HU
        clear k3_0 k3_1 k3_2 k4_0 k4_1 k4_2 k5_0 k5_1 k5_2
        go_wp2_with fail
        go_ret
        exact ⟨rec.retB (by first | rfl | (simp; done) | (simp; omega)), HBw0.out⟩
    · clear k3_0 k3_1 k3_2 k4_0 k4_1 k4_2 k5_0 k5_1 k5_2
      obtain ⟨k3_0, k3_1, k3_2⟩ := cells3 (HX0_0.out W0 (Below.refl _ _))
      obtain ⟨k4_0, k4_1, k4_2⟩ := cells3 (HX1_0.out W0 (Below.refl _ _))
      obtain ⟨k5_0, k5_1, k5_2⟩ := cells3 (HX2_0.out W0 (Below.refl _ _))
      go_wp2_with fail
      refine Calls.mono (cap0_is as_ bs cs_ HCb2.out _) ?_
      rintro e9 W9 ⟨rfl, rfl⟩
      have hu : u = true := by
        rw [← HU.out]
        simp only [against, Bool.or_eq_true, Bool.or_eq_false_iff, decide_eq_true_eq, decide_eq_false_iff_not, HCb1.out, HCb2.out, true_or, or_true, true_and, and_true, Bool.or_true, Bool.true_or, Bool.or_false, Bool.false_or]
        try omega
      subst hu
      clear HU
      clear k3_0 k3_1 k3_2 k4_0 k4_1 k4_2 k5_0 k5_1 k5_2
      go_wp2_with fail
      go_ret
      exact ⟨rec.retB (by first | rfl | (simp; done) | (simp; omega)), HBw0.out⟩
  · obtain ⟨k3_0, k3_1, k3_2⟩ := cells3 (HX0_0.out W0 (Below.refl _ _))
    obtain ⟨k4_0, k4_1, k4_2⟩ := cells3 (HX1_0.out W0 (Below.refl _ _))
    obtain ⟨k5_0, k5_1, k5_2⟩ := cells3 (HX2_0.out W0 (Below.refl _ _))
    go_wp2_with fail
    refine Calls.mono (cap0_is al bl cl HCb1.out _) ?_
    rintro e9 W9 ⟨rfl, rfl⟩
    have hu : u = true := by
      rw [← HU.out]
      simp only [against, Bool.or_eq_true, Bool.or_eq_false_iff, decide_eq_true_eq, decide_eq_false_iff_not, HCb1.out, true_or, or_true, true_and, and_true, Bool.or_true, Bool.true_or, Bool.or_false, Bool.false_or]
      try omega
    subst hu
    clear HU
    clear k3_0 k3_1 k3_2 k4_0 k4_1 k4_2 k5_0 k5_1 k5_2
    go_wp2_with fail
    go_ret
    exact ⟨rec.retB (by first | rfl | (simp; done) | (simp; omega)), HBw0.out⟩
theorem against_is (al as_ an bl bs bn cl cs_ cn : Int) {b : Bool} (h : against ⟨al, as_, an⟩ ⟨bl, bs, bn⟩ ⟨cl, cs_, cn⟩ = b) (w : World) : Calls Try.prog 81 #[.agg #[.int .i64 al, .int .i64 as_, .int .i64 an], .agg #[.int .i64 bl, .int .i64 bs, .int .i64 bn], .agg #[.int .i64 cl, .int .i64 cs_, .int .i64 cn]] w fun e w' => e = .returned (.bool b) ∧ Below w.heap.size w w' := by
  have key := against_any al as_ an bl bs bn cl cs_ cn w
  rw [h] at key
  exact key

end Go.Proofs.Ytiljgndgffoloab.limit
end
