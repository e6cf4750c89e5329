/-
  The contract of the document's own answer for layer 8: Did.
-/
import Derived.Test.YtkpapjdlpjjmbaaCellRefR
import Derived.Test.YtkpapjdlpjjmbaaCellRefM
import Derived.Deep.DeepCutAuto
import Derived.Deep.DrawnRows
import Derived.Deep.RegionHeld
namespace Go.Proofs.Ytkpapjdlpjjmbaa.cell
open Go.RowKit Go.Proofs.Ytkpapjdlpjjmbaa
open Go.Proofs.Ytkpapjdlpjjmbaa.order (eq_cases)
attribute [local go_sem] undef
attribute [local go_sem ↓] Go.wp_at_zero Go.wp_at_succ
set_option linter.unusedVariables false
set_option linter.unusedSimpArgs false
set_option maxRecDepth 20000
set_option maxHeartbeats 8000000

theorem rdid_any (cp cb cs cn : Int) (side qty : Int) (hf : (⟨cp, cb, cs, cn⟩ : Ce).fine) (hq : frame.inR qty) (w : World) : Calls Try.prog 17 #[.agg #[.int .i64 cp, .int .i64 cb, .int .i64 cs, .int .i64 cn], .int .i64 side, .int .i64 qty] w fun e w' => e = .returned (.tuple #[.agg (cc (did ⟨cp, cb, cs, cn⟩ side qty).1), .int .i64 (did ⟨cp, cb, cs, cn⟩ side qty).2]) ∧ Below w.heap.size w w' := by
  obtain ⟨W0, HW0⟩ : ∃ W, Hid (((w.alloc (.cells #[.int .i64 cp, .int .i64 cb, .int .i64 cs, .int .i64 cn] 23)).alloc (.cells #[.int .i64 0, .int .i64 0, .int .i64 0, .int .i64 0] 23)) = W) := ⟨_, Lib.hid rfl⟩
  have HBw0 : Hid (Below w.heap.size w W0) := Lib.hid (by rw [← HW0.out]; exact ((Below.refl _ _).alloc (by simp) _).alloc (by simp; try omega) _)
  have HX0_0 : Hid (∀ W, Below W0.heap.size W0 W → W.heap[w.heap.size]? = some (.cells #[.int .i64 cp, .int .i64 cb, .int .i64 cs, .int .i64 cn] 23 (0, 0))) := Lib.hid (fun W hb => (hb.block _ (by rw [← HW0.out]; simp; try omega)).trans (by rw [← HW0.out]; refine (Below.heap_alloc _ _ _ (by simp; try omega)).trans ?_; have := heap_alloc_new w (.cells #[.int .i64 cp, .int .i64 cb, .int .i64 cs, .int .i64 cn] 23); exact this))
  have HX1_0 : Hid (∀ W, Below W0.heap.size W0 W → W.heap[w.heap.size + 1]? = some (.cells #[.int .i64 0, .int .i64 0, .int .i64 0, .int .i64 0] 23 (0, 0))) := Lib.hid (fun W hb => (hb.block _ (by rw [← HW0.out]; simp; try omega)).trans (by rw [← HW0.out]; have := heap_alloc_new (w.alloc (.cells #[.int .i64 cp, .int .i64 cb, .int .i64 cs, .int .i64 cn] 23)) (.cells #[.int .i64 0, .int .i64 0, .int .i64 0, .int .i64 0] 23); simp only [World.size_alloc] at this; exact this))
  have HRcp : Hid (inI cp) := Lib.hid (by simp only [Ce.fine, frame.inR] at hf; unfold inI; omega)
  have HRcb : Hid (inI cb) := Lib.hid (by simp only [Ce.fine, frame.inR] at hf; unfold inI; omega)
  have HRcs : Hid (inI cs) := Lib.hid (by simp only [Ce.fine, frame.inR] at hf; unfold inI; omega)
  have HRcn : Hid (inI cn) := Lib.hid (by simp only [Ce.fine, frame.inR] at hf; unfold inI; omega)
  have HF := Lib.hid hf
  have HRqty : Hid (inI qty) := Lib.hid (by simp only [frame.inR] at hq; unfold inI; omega)
  clear hf hq
  obtain ⟨u, HU⟩ : ∃ u, Hid (did ⟨cp, cb, cs, cn⟩ side qty = u) := ⟨_, Lib.hid rfl⟩
  rw [HU.out]
  go_enter Try.func17, Try.ntmps17
  go_upto_region 1 with fail
  rw [HW0.out]
  obtain ⟨cb1, HCb1⟩ : ∃ x, Hid (right ⟨cp, cb, cs, cn⟩ = x) := ⟨_, Lib.hid rfl⟩
  rcases cb1 with _ | _
  · obtain ⟨k3_0, k3_1, k3_2, k3_3⟩ := cells4 (HX0_0.out W0 (Below.refl _ _))
    go_wp2_with fail
    refine Calls.mono (rright_is cp cb cs cn HF.out HCb1.out _) ?_
    rintro e1 W1 ⟨rfl, hb⟩
    have HBw1 : Hid (Below w.heap.size w W1) := Lib.hid (HBw0.out.trans ((hb : Below W0.heap.size W0 W1).mono HBw0.out.size))
    have HB0_1 : Hid (Below W0.heap.size W0 W1) := Lib.hid (hb)
    clear hb
    have hu : u = (⟨cp, cb, cs, cn⟩, 1) := by
      rw [← HU.out]
      exact did_1 (by exact .inl HCb1.out)
    subst hu
    clear HU
    clear k3_0 k3_1 k3_2 k3_3
    obtain ⟨k3_0, k3_1, k3_2, k3_3⟩ := cells4 (HX0_0.out W1 HB0_1.out)
    have hwh : World.whole W1 (w.heap.size + 1) 4 23 := whole_of (HX1_0.out W1 HB0_1.out) rfl
    go_wp2_with (refine wpList_store_whole 23 (.tmp 6) (.tmp 26) (w.heap.size + 1) 4 _ 23 (by rfl) (by rfl) hwh (by rfl) (by kernel_rfl) (by kernel_rfl) ?_)
    obtain ⟨v0, v1, v2, v3⟩ := cells4 (setAll_self (vs := #[.int .i64 cp, .int .i64 cb, .int .i64 cs, .int .i64 cn]) hwh rfl)
    exact bodyPost_ret (v := .tuple #[.agg #[.int .i64 cp, .int .i64 cb, .int .i64 cs, .int .i64 cn], .int .i64 1]) (by simp [results, Try.results17, go_sem, v0, v1, v2, v3]) rfl ⟨rfl, setAll_below (HBw1.out) (by first | omega | (simp; done) | (simp; omega))⟩
  · obtain ⟨k3_0, k3_1, k3_2, k3_3⟩ := cells4 (HX0_0.out W0 (Below.refl _ _))
    go_wp2_with fail
    refine Calls.mono (rright_is cp cb cs cn HF.out HCb1.out _) ?_
    rintro e1 W1 ⟨rfl, hb⟩
    have HBw1 : Hid (Below w.heap.size w W1) := Lib.hid (HBw0.out.trans ((hb : Below W0.heap.size W0 W1).mono HBw0.out.size))
    have HB0_1 : Hid (Below W0.heap.size W0 W1) := Lib.hid (hb)
    clear hb
    by_cases hlz2 : side < 1
    · have HLz2 := Lib.hid hlz2
      have hu : u = (⟨cp, cb, cs, cn⟩, 1) := by
        rw [← HU.out]
        have x0 := HLz2.out
        exact did_1 (by right; omega)
      subst hu
      clear HU
      clear k3_0 k3_1 k3_2 k3_3
      obtain ⟨k3_0, k3_1, k3_2, k3_3⟩ := cells4 (HX0_0.out W1 HB0_1.out)
      have hwh : World.whole W1 (w.heap.size + 1) 4 23 := whole_of (HX1_0.out W1 HB0_1.out) rfl
      go_wp2_with (refine wpList_store_whole 23 (.tmp 6) (.tmp 26) (w.heap.size + 1) 4 _ 23 (by rfl) (by rfl) hwh (by rfl) (by kernel_rfl) (by kernel_rfl) ?_)
      obtain ⟨v0, v1, v2, v3⟩ := cells4 (setAll_self (vs := #[.int .i64 cp, .int .i64 cb, .int .i64 cs, .int .i64 cn]) hwh rfl)
      exact bodyPost_ret (v := .tuple #[.agg #[.int .i64 cp, .int .i64 cb, .int .i64 cs, .int .i64 cn], .int .i64 1]) (by simp [results, Try.results17, go_sem, v0, v1, v2, v3]) rfl ⟨rfl, setAll_below (HBw1.out) (by first | omega | (simp; done) | (simp; omega))⟩
    · have HLz2 := Lib.hid hlz2
      have hnz2 : 1 ≤ side := by omega
      clear hlz2
      by_cases hlz3 : 2 < side
      · have HLz3 := Lib.hid hlz3
        have hu : u = (⟨cp, cb, cs, cn⟩, 1) := by
          rw [← HU.out]
          have x0 := HLz2.out
          have x1 := HLz3.out
          exact did_1 (by right; omega)
        subst hu
        clear HU
        clear k3_0 k3_1 k3_2 k3_3
        obtain ⟨k3_0, k3_1, k3_2, k3_3⟩ := cells4 (HX0_0.out W1 HB0_1.out)
        have hwh : World.whole W1 (w.heap.size + 1) 4 23 := whole_of (HX1_0.out W1 HB0_1.out) rfl
        go_wp2_with (refine wpList_store_whole 23 (.tmp 6) (.tmp 26) (w.heap.size + 1) 4 _ 23 (by rfl) (by rfl) hwh (by rfl) (by kernel_rfl) (by kernel_rfl) ?_)
        obtain ⟨v0, v1, v2, v3⟩ := cells4 (setAll_self (vs := #[.int .i64 cp, .int .i64 cb, .int .i64 cs, .int .i64 cn]) hwh rfl)
        exact bodyPost_ret (v := .tuple #[.agg #[.int .i64 cp, .int .i64 cb, .int .i64 cs, .int .i64 cn], .int .i64 1]) (by simp [results, Try.results17, go_sem, v0, v1, v2, v3]) rfl ⟨rfl, setAll_below (HBw1.out) (by first | omega | (simp; done) | (simp; omega))⟩
      · have HLz3 := Lib.hid hlz3
        have hnz3 : side ≤ 2 := by omega
        clear hlz3
        by_cases hlz4 : qty < 0
        · have HLz4 := Lib.hid hlz4
          have hu : u = (⟨cp, cb, cs, cn⟩, 1) := by
            rw [← HU.out]
            have x0 := HLz2.out
            have x1 := HLz3.out
            have x2 := HLz4.out
            exact did_1 (by right; omega)
          subst hu
          clear HU
          clear k3_0 k3_1 k3_2 k3_3
          obtain ⟨k3_0, k3_1, k3_2, k3_3⟩ := cells4 (HX0_0.out W1 HB0_1.out)
          have hwh : World.whole W1 (w.heap.size + 1) 4 23 := whole_of (HX1_0.out W1 HB0_1.out) rfl
          go_wp2_with (refine wpList_store_whole 23 (.tmp 6) (.tmp 26) (w.heap.size + 1) 4 _ 23 (by rfl) (by rfl) hwh (by rfl) (by kernel_rfl) (by kernel_rfl) ?_)
          obtain ⟨v0, v1, v2, v3⟩ := cells4 (setAll_self (vs := #[.int .i64 cp, .int .i64 cb, .int .i64 cs, .int .i64 cn]) hwh rfl)
          exact bodyPost_ret (v := .tuple #[.agg #[.int .i64 cp, .int .i64 cb, .int .i64 cs, .int .i64 cn], .int .i64 1]) (by simp [results, Try.results17, go_sem, v0, v1, v2, v3]) rfl ⟨rfl, setAll_below (HBw1.out) (by first | omega | (simp; done) | (simp; omega))⟩
        · have HLz4 := Lib.hid hlz4
          have hnz4 : 0 ≤ qty := by omega
          clear hlz4
          rcases eq_cases side 2 with ⟨HEz5, hez5, hfz5⟩ | ⟨HEz5, hez5, hfz5⟩
          · obtain rfl : side = 2 := HEz5.out
            by_cases hii6 : inI (cp - qty)
            · have HIi6 := Lib.hid hii6
              clear hii6
              clear k3_0 k3_1 k3_2 k3_3
              obtain ⟨k3_0, k3_1, k3_2, k3_3⟩ := cells4 (HX0_0.out W1 HB0_1.out)
              go_wp2_with fail
              refine Calls.mono (more_sub cp qty _ HRcp.out HRqty.out HIi6.out) ?_
              rintro e9 W9 ⟨rfl, rfl⟩
              clear k3_0 k3_1 k3_2 k3_3
              obtain ⟨k3_0, k3_1, k3_2, k3_3⟩ := cells4 (HX0_0.out W1 HB0_1.out)
              go_upto_region 5 with fail
              obtain ⟨W2, HW2⟩ : ∃ W, Hid ((W1.alloc (.cells #[.int .i64 cp, .int .i64 cb, .int .i64 cs, .int .i64 cn] 23)) = W) := ⟨_, Lib.hid rfl⟩
              have NE_2_10_3 : Hid (w.heap.size ≠ W1.heap.size) := Lib.hid (Nat.ne_of_lt (Array.getElem?_eq_some_iff.1 (HX0_0.out W1 HB0_1.out)).1)
              have NE_2_10_6 : Hid (w.heap.size + 1 ≠ W1.heap.size) := Lib.hid (Nat.ne_of_lt (Array.getElem?_eq_some_iff.1 (HX1_0.out W1 HB0_1.out)).1)
              have LE_2 : Hid (w.heap.size ≤ W1.heap.size) := Lib.hid HBw1.out.size
              have HBw2 : Hid (Below w.heap.size w W2) := Lib.hid (HBw1.out.trans ((by rw [← HW2.out]; exact (Below.refl _ _).alloc (Nat.le_refl _) _ : Below W1.heap.size W1 W2).mono HBw1.out.size))
              have HB0_2 : Hid (Below W0.heap.size W0 W2) := Lib.hid (HB0_1.out.trans ((by rw [← HW2.out]; exact (Below.refl _ _).alloc (Nat.le_refl _) _ : Below W1.heap.size W1 W2).mono HB0_1.out.size))
              have HB1_2 : Hid (Below W1.heap.size W1 W2) := Lib.hid (by rw [← HW2.out]; exact (Below.refl _ _).alloc (Nat.le_refl _) _)
              have HX10_2 : Hid (∀ W, Below W2.heap.size W2 W → W.heap[W1.heap.size]? = some (.cells #[.int .i64 cp, .int .i64 cb, .int .i64 cs, .int .i64 cn] 23 (0, 0))) := Lib.hid (fun W hb => (hb.block _ (by rw [← HW2.out]; simp)).trans (by rw [← HW2.out]; exact heap_alloc_new _ _))
              rw [HW2.out]
              clear k3_0 k3_1 k3_2 k3_3
              obtain ⟨k10_0, k10_1, k10_2, k10_3⟩ := cells4 (HX10_2.out W2 (Below.refl _ _))
              have z10_0 := (block_cell (HX10_2.out W2 (Below.refl _ _)) 0 (.int .i64 cp) rfl).2
              go_upto_region 6 with fail
              clear z10_0
              have hS0 : W2.heap[W1.heap.size]? = some (.cells #[.int .i64 cp, .int .i64 cb, .int .i64 cs, .int .i64 cn] 23 (0, 0)) := HX10_2.out W2 (Below.refl _ _)
              have hS1 : (W2.setCell ⟨W1.heap.size, 0, none⟩ (.int .i64 (cp - qty))).heap[W1.heap.size]? = some (.cells #[.int .i64 (cp - qty), .int .i64 cb, .int .i64 cs, .int .i64 cn] 23 (0, 0)) := by have := heap_setCell_same W2 (W1.heap.size) 0 _ 23 (.int .i64 (cp - qty)) hS0; simpa using this
              obtain ⟨W3, HW3⟩ : ∃ W, Hid ((W2.setCell ⟨W1.heap.size, 0, none⟩ (.int .i64 (cp - qty))) = W) := ⟨_, Lib.hid rfl⟩
              rw [HW3.out]
              rw [HW3.out] at hS1
              have HBw3 : Hid (Below w.heap.size w W3) := Lib.hid (by rw [← HW3.out]; exact (HBw2.out).setCell (p := ⟨W1.heap.size, 0, none⟩) (LE_2.out) _)
              have hsz : W3.heap.size = W2.heap.size := by rw [← HW3.out]; simp
              have HX3_3 : Hid (∀ W, Below W3.heap.size W3 W → W.heap[w.heap.size]? = some (.cells #[.int .i64 cp, .int .i64 cb, .int .i64 cs, .int .i64 cn] 23 (0, 0))) := Lib.hid (fun W hb => (hb.block _ (by rw [hsz]; exact (Array.getElem?_eq_some_iff.1 (HX0_0.out W2 HB0_2.out)).1)).trans (by rw [← HW3.out]; exact (Below.heap_setCell _ _ _ _ (NE_2_10_3.out)).trans ((HX0_0.out W2 HB0_2.out))))
              have HX6_3 : Hid (∀ W, Below W3.heap.size W3 W → W.heap[w.heap.size + 1]? = some (.cells #[.int .i64 0, .int .i64 0, .int .i64 0, .int .i64 0] 23 (0, 0))) := Lib.hid (fun W hb => (hb.block _ (by rw [hsz]; exact (Array.getElem?_eq_some_iff.1 (HX1_0.out W2 HB0_2.out)).1)).trans (by rw [← HW3.out]; exact (Below.heap_setCell _ _ _ _ (NE_2_10_6.out)).trans ((HX1_0.out W2 HB0_2.out))))
              have HX10_3 : Hid (∀ W, Below W3.heap.size W3 W → W.heap[W1.heap.size]? = some (.cells #[.int .i64 (cp - qty), .int .i64 cb, .int .i64 cs, .int .i64 cn] 23 (0, 0))) := Lib.hid (fun W hb => (hb.block _ (by rw [hsz]; exact (Array.getElem?_eq_some_iff.1 (HX10_2.out W2 (Below.refl _ _))).1)).trans hS1)
              clear hsz hS0 hS1
              obtain ⟨cb8, HCb8⟩ : ∃ x, Hid (right ⟨(cp - qty), cb, cs, cn⟩ = x) := ⟨_, Lib.hid rfl⟩
              rcases cb8 with _ | _
              · clear k10_0 k10_1 k10_2 k10_3
                obtain ⟨k10_0, k10_1, k10_2, k10_3⟩ := cells4 (HX10_3.out W3 (Below.refl _ _))
                go_wp2_with fail
                refine Calls.mono (rright_is (cp - qty) cb cs cn (by have q0 := HF.out; have q1 := HIi6.out; simp only [Ce.fine, frame.inR, inI] at *; omega) HCb8.out _) ?_
                rintro e4 W4 ⟨rfl, hb⟩
                have HBw4 : Hid (Below w.heap.size w W4) := Lib.hid (HBw3.out.trans ((hb : Below W3.heap.size W3 W4).mono HBw3.out.size))
                have HB3_4 : Hid (Below W3.heap.size W3 W4) := Lib.hid (hb)
                clear hb
                have hu : u = (⟨cp, cb, cs, cn⟩, 3) := by
                  rw [← HU.out]
                  have x0 := HLz2.out
                  have x1 := HLz3.out
                  have x2 := HLz4.out
                  have x3 := HIi6.out
                  exact did_3 (d := ⟨(cp - qty), cb, cs, cn⟩) HCb1.out (by omega) (by omega) (by omega) (by unfold moved; simp) (fun h => absurd (right_iff.2 h.2) (by rw [HCb8.out]; simp))
                subst hu
                clear HU
                clear k10_0 k10_1 k10_2 k10_3
                obtain ⟨k3_0, k3_1, k3_2, k3_3⟩ := cells4 (HX3_3.out W4 HB3_4.out)
                have hwh : World.whole W4 (w.heap.size + 1) 4 23 := whole_of (HX6_3.out W4 HB3_4.out) rfl
                go_wp2_with (refine wpList_store_whole 23 (.tmp 6) (.tmp 46) (w.heap.size + 1) 4 _ 23 (by rfl) (by rfl) hwh (by rfl) (by kernel_rfl) (by kernel_rfl) ?_)
                obtain ⟨v0, v1, v2, v3⟩ := cells4 (setAll_self (vs := #[.int .i64 cp, .int .i64 cb, .int .i64 cs, .int .i64 cn]) hwh rfl)
                exact bodyPost_ret (v := .tuple #[.agg #[.int .i64 cp, .int .i64 cb, .int .i64 cs, .int .i64 cn], .int .i64 3]) (by simp [results, Try.results17, go_sem, v0, v1, v2, v3]) rfl ⟨rfl, setAll_below (HBw4.out) (by first | omega | (simp; done) | (simp; omega))⟩
              · clear k10_0 k10_1 k10_2 k10_3
                obtain ⟨k10_0, k10_1, k10_2, k10_3⟩ := cells4 (HX10_3.out W3 (Below.refl _ _))
                go_wp2_with fail
                refine Calls.mono (rright_is (cp - qty) cb cs cn (by have q0 := HF.out; have q1 := HIi6.out; simp only [Ce.fine, frame.inR, inI] at *; omega) HCb8.out _) ?_
                rintro e4 W4 ⟨rfl, hb⟩
                have HBw4 : Hid (Below w.heap.size w W4) := Lib.hid (HBw3.out.trans ((hb : Below W3.heap.size W3 W4).mono HBw3.out.size))
                have HB3_4 : Hid (Below W3.heap.size W3 W4) := Lib.hid (hb)
                clear hb
                have hu : u = (⟨(cp - qty), cb, cs, cn⟩, 0) := by
                  rw [← HU.out]
                  have x0 := HLz2.out
                  have x1 := HLz3.out
                  have x2 := HLz4.out
                  have x3 := HIi6.out
                  exact did_0 (d := ⟨(cp - qty), cb, cs, cn⟩) HCb1.out (by omega) (by omega) (by omega) (by unfold moved; simp) (by have q0 := HF.out; have q1 := HIi6.out; simp only [Ce.fine, frame.inR, inI] at *; omega) (right_iff.1 HCb8.out)
                subst hu
                clear HU
                clear k10_0 k10_1 k10_2 k10_3
                obtain ⟨k10_0, k10_1, k10_2, k10_3⟩ := cells4 (HX10_3.out W4 HB3_4.out)
                have hwh : World.whole W4 (w.heap.size + 1) 4 23 := whole_of (HX6_3.out W4 HB3_4.out) rfl
                go_wp2_with (refine wpList_store_whole 23 (.tmp 6) (.tmp 47) (w.heap.size + 1) 4 _ 23 (by rfl) (by rfl) hwh (by rfl) (by kernel_rfl) (by kernel_rfl) ?_)
                obtain ⟨v0, v1, v2, v3⟩ := cells4 (setAll_self (vs := #[.int .i64 (cp - qty), .int .i64 cb, .int .i64 cs, .int .i64 cn]) hwh rfl)
                exact bodyPost_ret (v := .tuple #[.agg #[.int .i64 (cp - qty), .int .i64 cb, .int .i64 cs, .int .i64 cn], .int .i64 0]) (by simp [results, Try.results17, go_sem, v0, v1, v2, v3]) rfl ⟨rfl, setAll_below (HBw4.out) (by first | omega | (simp; done) | (simp; omega))⟩
            · have HIi6 := Lib.hid hii6
              clear hii6
              clear k3_0 k3_1 k3_2 k3_3
              obtain ⟨k3_0, k3_1, k3_2, k3_3⟩ := cells4 (HX0_0.out W1 HB0_1.out)
              go_wp2_with fail
              refine Calls.mono (more_sub_over cp qty _ HRcp.out HRqty.out HIi6.out) ?_
              rintro e9 W9 ⟨rfl, rfl⟩
              clear k3_0 k3_1 k3_2 k3_3
              obtain ⟨k3_0, k3_1, k3_2, k3_3⟩ := cells4 (HX0_0.out W1 HB0_1.out)
              go_upto_region 5 with fail
              obtain ⟨W2, HW2⟩ : ∃ W, Hid ((W1.alloc (.cells #[.int .i64 cp, .int .i64 cb, .int .i64 cs, .int .i64 cn] 23)) = W) := ⟨_, Lib.hid rfl⟩
              have NE_2_10_3 : Hid (w.heap.size ≠ W1.heap.size) := Lib.hid (Nat.ne_of_lt (Array.getElem?_eq_some_iff.1 (HX0_0.out W1 HB0_1.out)).1)
              have NE_2_10_6 : Hid (w.heap.size + 1 ≠ W1.heap.size) := Lib.hid (Nat.ne_of_lt (Array.getElem?_eq_some_iff.1 (HX1_0.out W1 HB0_1.out)).1)
              have LE_2 : Hid (w.heap.size ≤ W1.heap.size) := Lib.hid HBw1.out.size
              have HBw2 : Hid (Below w.heap.size w W2) := Lib.hid (HBw1.out.trans ((by rw [← HW2.out]; exact (Below.refl _ _).alloc (Nat.le_refl _) _ : Below W1.heap.size W1 W2).mono HBw1.out.size))
              have HB0_2 : Hid (Below W0.heap.size W0 W2) := Lib.hid (HB0_1.out.trans ((by rw [← HW2.out]; exact (Below.refl _ _).alloc (Nat.le_refl _) _ : Below W1.heap.size W1 W2).mono HB0_1.out.size))
              have HB1_2 : Hid (Below W1.heap.size W1 W2) := Lib.hid (by rw [← HW2.out]; exact (Below.refl _ _).alloc (Nat.le_refl _) _)
              have HX10_2 : Hid (∀ W, Below W2.heap.size W2 W → W.heap[W1.heap.size]? = some (.cells #[.int .i64 cp, .int .i64 cb, .int .i64 cs, .int .i64 cn] 23 (0, 0))) := Lib.hid (fun W hb => (hb.block _ (by rw [← HW2.out]; simp)).trans (by rw [← HW2.out]; exact heap_alloc_new _ _))
              rw [HW2.out]
              clear k3_0 k3_1 k3_2 k3_3
              obtain ⟨k10_0, k10_1, k10_2, k10_3⟩ := cells4 (HX10_2.out W2 (Below.refl _ _))
              have z10_0 := (block_cell (HX10_2.out W2 (Below.refl _ _)) 0 (.int .i64 cp) rfl).2
              go_upto_region 6 with fail
              clear z10_0
              have hS0 : W2.heap[W1.heap.size]? = some (.cells #[.int .i64 cp, .int .i64 cb, .int .i64 cs, .int .i64 cn] 23 (0, 0)) := HX10_2.out W2 (Below.refl _ _)
              have hS1 : (W2.setCell ⟨W1.heap.size, 0, none⟩ (.int .i64 0)).heap[W1.heap.size]? = some (.cells #[.int .i64 0, .int .i64 cb, .int .i64 cs, .int .i64 cn] 23 (0, 0)) := by have := heap_setCell_same W2 (W1.heap.size) 0 _ 23 (.int .i64 0) hS0; simpa using this
              obtain ⟨W3, HW3⟩ : ∃ W, Hid ((W2.setCell ⟨W1.heap.size, 0, none⟩ (.int .i64 0)) = W) := ⟨_, Lib.hid rfl⟩
              rw [HW3.out]
              rw [HW3.out] at hS1
              have HBw3 : Hid (Below w.heap.size w W3) := Lib.hid (by rw [← HW3.out]; exact (HBw2.out).setCell (p := ⟨W1.heap.size, 0, none⟩) (LE_2.out) _)
              have hsz : W3.heap.size = W2.heap.size := by rw [← HW3.out]; simp
              have HX3_3 : Hid (∀ W, Below W3.heap.size W3 W → W.heap[w.heap.size]? = some (.cells #[.int .i64 cp, .int .i64 cb, .int .i64 cs, .int .i64 cn] 23 (0, 0))) := Lib.hid (fun W hb => (hb.block _ (by rw [hsz]; exact (Array.getElem?_eq_some_iff.1 (HX0_0.out W2 HB0_2.out)).1)).trans (by rw [← HW3.out]; exact (Below.heap_setCell _ _ _ _ (NE_2_10_3.out)).trans ((HX0_0.out W2 HB0_2.out))))
              have HX6_3 : Hid (∀ W, Below W3.heap.size W3 W → W.heap[w.heap.size + 1]? = some (.cells #[.int .i64 0, .int .i64 0, .int .i64 0, .int .i64 0] 23 (0, 0))) := Lib.hid (fun W hb => (hb.block _ (by rw [hsz]; exact (Array.getElem?_eq_some_iff.1 (HX1_0.out W2 HB0_2.out)).1)).trans (by rw [← HW3.out]; exact (Below.heap_setCell _ _ _ _ (NE_2_10_6.out)).trans ((HX1_0.out W2 HB0_2.out))))
              have HX10_3 : Hid (∀ W, Below W3.heap.size W3 W → W.heap[W1.heap.size]? = some (.cells #[.int .i64 0, .int .i64 cb, .int .i64 cs, .int .i64 cn] 23 (0, 0))) := Lib.hid (fun W hb => (hb.block _ (by rw [hsz]; exact (Array.getElem?_eq_some_iff.1 (HX10_2.out W2 (Below.refl _ _))).1)).trans hS1)
              clear hsz hS0 hS1
              have hu : u = (⟨cp, cb, cs, cn⟩, 3) := by
                rw [← HU.out]
                have x0 := HLz2.out
                have x1 := HLz3.out
                have x2 := HLz4.out
                have x3 := HIi6.out
                exact did_3 (d := ⟨(cp - qty), cb, cs, cn⟩) HCb1.out (by omega) (by omega) (by omega) (by unfold moved; simp) (fun h => by have := h.1; simp only [Ce.fine, frame.inR, inI] at *; omega)
              subst hu
              clear HU
              clear k10_0 k10_1 k10_2 k10_3
              obtain ⟨k3_0, k3_1, k3_2, k3_3⟩ := cells4 (HX3_3.out W3 (Below.refl _ _))
              have hwh : World.whole W3 (w.heap.size + 1) 4 23 := whole_of (HX6_3.out W3 (Below.refl _ _)) rfl
              go_wp2_with (refine wpList_store_whole 23 (.tmp 6) (.tmp 46) (w.heap.size + 1) 4 _ 23 (by rfl) (by rfl) hwh (by rfl) (by kernel_rfl) (by kernel_rfl) ?_)
              obtain ⟨v0, v1, v2, v3⟩ := cells4 (setAll_self (vs := #[.int .i64 cp, .int .i64 cb, .int .i64 cs, .int .i64 cn]) hwh rfl)
              exact bodyPost_ret (v := .tuple #[.agg #[.int .i64 cp, .int .i64 cb, .int .i64 cs, .int .i64 cn], .int .i64 3]) (by simp [results, Try.results17, go_sem, v0, v1, v2, v3]) rfl ⟨rfl, setAll_below (HBw3.out) (by first | omega | (simp; done) | (simp; omega))⟩
          · by_cases hii9 : inI (cp + qty)
            · have HIi9 := Lib.hid hii9
              clear hii9
              clear k3_0 k3_1 k3_2 k3_3
              obtain ⟨k3_0, k3_1, k3_2, k3_3⟩ := cells4 (HX0_0.out W1 HB0_1.out)
              go_wp2_with fail
              refine Calls.mono (more_add cp qty _ HRcp.out HRqty.out HIi9.out) ?_
              rintro e9 W9 ⟨rfl, rfl⟩
              clear k3_0 k3_1 k3_2 k3_3
              obtain ⟨k3_0, k3_1, k3_2, k3_3⟩ := cells4 (HX0_0.out W1 HB0_1.out)
              go_upto_region 5 with fail
              obtain ⟨W2, HW2⟩ : ∃ W, Hid ((W1.alloc (.cells #[.int .i64 cp, .int .i64 cb, .int .i64 cs, .int .i64 cn] 23)) = W) := ⟨_, Lib.hid rfl⟩
              have NE_2_10_3 : Hid (w.heap.size ≠ W1.heap.size) := Lib.hid (Nat.ne_of_lt (Array.getElem?_eq_some_iff.1 (HX0_0.out W1 HB0_1.out)).1)
              have NE_2_10_6 : Hid (w.heap.size + 1 ≠ W1.heap.size) := Lib.hid (Nat.ne_of_lt (Array.getElem?_eq_some_iff.1 (HX1_0.out W1 HB0_1.out)).1)
              have LE_2 : Hid (w.heap.size ≤ W1.heap.size) := Lib.hid HBw1.out.size
              have HBw2 : Hid (Below w.heap.size w W2) := Lib.hid (HBw1.out.trans ((by rw [← HW2.out]; exact (Below.refl _ _).alloc (Nat.le_refl _) _ : Below W1.heap.size W1 W2).mono HBw1.out.size))
              have HB0_2 : Hid (Below W0.heap.size W0 W2) := Lib.hid (HB0_1.out.trans ((by rw [← HW2.out]; exact (Below.refl _ _).alloc (Nat.le_refl _) _ : Below W1.heap.size W1 W2).mono HB0_1.out.size))
              have HB1_2 : Hid (Below W1.heap.size W1 W2) := Lib.hid (by rw [← HW2.out]; exact (Below.refl _ _).alloc (Nat.le_refl _) _)
              have HX10_2 : Hid (∀ W, Below W2.heap.size W2 W → W.heap[W1.heap.size]? = some (.cells #[.int .i64 cp, .int .i64 cb, .int .i64 cs, .int .i64 cn] 23 (0, 0))) := Lib.hid (fun W hb => (hb.block _ (by rw [← HW2.out]; simp)).trans (by rw [← HW2.out]; exact heap_alloc_new _ _))
              rw [HW2.out]
              clear k3_0 k3_1 k3_2 k3_3
              obtain ⟨k10_0, k10_1, k10_2, k10_3⟩ := cells4 (HX10_2.out W2 (Below.refl _ _))
              have z10_0 := (block_cell (HX10_2.out W2 (Below.refl _ _)) 0 (.int .i64 cp) rfl).2
              go_upto_region 6 with fail
              clear z10_0
              have hS0 : W2.heap[W1.heap.size]? = some (.cells #[.int .i64 cp, .int .i64 cb, .int .i64 cs, .int .i64 cn] 23 (0, 0)) := HX10_2.out W2 (Below.refl _ _)
              have hS1 : (W2.setCell ⟨W1.heap.size, 0, none⟩ (.int .i64 (cp + qty))).heap[W1.heap.size]? = some (.cells #[.int .i64 (cp + qty), .int .i64 cb, .int .i64 cs, .int .i64 cn] 23 (0, 0)) := by have := heap_setCell_same W2 (W1.heap.size) 0 _ 23 (.int .i64 (cp + qty)) hS0; simpa using this
              obtain ⟨W3, HW3⟩ : ∃ W, Hid ((W2.setCell ⟨W1.heap.size, 0, none⟩ (.int .i64 (cp + qty))) = W) := ⟨_, Lib.hid rfl⟩
              rw [HW3.out]
              rw [HW3.out] at hS1
              have HBw3 : Hid (Below w.heap.size w W3) := Lib.hid (by rw [← HW3.out]; exact (HBw2.out).setCell (p := ⟨W1.heap.size, 0, none⟩) (LE_2.out) _)
              have hsz : W3.heap.size = W2.heap.size := by rw [← HW3.out]; simp
              have HX3_3 : Hid (∀ W, Below W3.heap.size W3 W → W.heap[w.heap.size]? = some (.cells #[.int .i64 cp, .int .i64 cb, .int .i64 cs, .int .i64 cn] 23 (0, 0))) := Lib.hid (fun W hb => (hb.block _ (by rw [hsz]; exact (Array.getElem?_eq_some_iff.1 (HX0_0.out W2 HB0_2.out)).1)).trans (by rw [← HW3.out]; exact (Below.heap_setCell _ _ _ _ (NE_2_10_3.out)).trans ((HX0_0.out W2 HB0_2.out))))
              have HX6_3 : Hid (∀ W, Below W3.heap.size W3 W → W.heap[w.heap.size + 1]? = some (.cells #[.int .i64 0, .int .i64 0, .int .i64 0, .int .i64 0] 23 (0, 0))) := Lib.hid (fun W hb => (hb.block _ (by rw [hsz]; exact (Array.getElem?_eq_some_iff.1 (HX1_0.out W2 HB0_2.out)).1)).trans (by rw [← HW3.out]; exact (Below.heap_setCell _ _ _ _ (NE_2_10_6.out)).trans ((HX1_0.out W2 HB0_2.out))))
              have HX10_3 : Hid (∀ W, Below W3.heap.size W3 W → W.heap[W1.heap.size]? = some (.cells #[.int .i64 (cp + qty), .int .i64 cb, .int .i64 cs, .int .i64 cn] 23 (0, 0))) := Lib.hid (fun W hb => (hb.block _ (by rw [hsz]; exact (Array.getElem?_eq_some_iff.1 (HX10_2.out W2 (Below.refl _ _))).1)).trans hS1)
              clear hsz hS0 hS1
              obtain ⟨cb11, HCb11⟩ : ∃ x, Hid (right ⟨(cp + qty), cb, cs, cn⟩ = x) := ⟨_, Lib.hid rfl⟩
              rcases cb11 with _ | _
              · clear k10_0 k10_1 k10_2 k10_3
                obtain ⟨k10_0, k10_1, k10_2, k10_3⟩ := cells4 (HX10_3.out W3 (Below.refl _ _))
                go_wp2_with fail
                refine Calls.mono (rright_is (cp + qty) cb cs cn (by have q0 := HF.out; have q1 := HIi9.out; simp only [Ce.fine, frame.inR, inI] at *; omega) HCb11.out _) ?_
                rintro e4 W4 ⟨rfl, hb⟩
                have HBw4 : Hid (Below w.heap.size w W4) := Lib.hid (HBw3.out.trans ((hb : Below W3.heap.size W3 W4).mono HBw3.out.size))
                have HB3_4 : Hid (Below W3.heap.size W3 W4) := Lib.hid (hb)
                clear hb
                have hu : u = (⟨cp, cb, cs, cn⟩, 3) := by
                  rw [← HU.out]
                  have x0 := HLz2.out
                  have x1 := HLz3.out
                  have x2 := HLz4.out
                  have x3 := HEz5.out
                  have x4 := HIi9.out
                  exact did_3 (d := ⟨(cp + qty), cb, cs, cn⟩) HCb1.out (by omega) (by omega) (by omega) (by unfold moved; first | (simp; done) | (simp [show ¬ side = 2 from HEz5.out]; done)) (fun h => absurd (right_iff.2 h.2) (by rw [HCb11.out]; simp))
                subst hu
                clear HU
                clear k10_0 k10_1 k10_2 k10_3
                obtain ⟨k3_0, k3_1, k3_2, k3_3⟩ := cells4 (HX3_3.out W4 HB3_4.out)
                have hwh : World.whole W4 (w.heap.size + 1) 4 23 := whole_of (HX6_3.out W4 HB3_4.out) rfl
                go_wp2_with (refine wpList_store_whole 23 (.tmp 6) (.tmp 46) (w.heap.size + 1) 4 _ 23 (by rfl) (by rfl) hwh (by rfl) (by kernel_rfl) (by kernel_rfl) ?_)
                obtain ⟨v0, v1, v2, v3⟩ := cells4 (setAll_self (vs := #[.int .i64 cp, .int .i64 cb, .int .i64 cs, .int .i64 cn]) hwh rfl)
                exact bodyPost_ret (v := .tuple #[.agg #[.int .i64 cp, .int .i64 cb, .int .i64 cs, .int .i64 cn], .int .i64 3]) (by simp [results, Try.results17, go_sem, v0, v1, v2, v3]) rfl ⟨rfl, setAll_below (HBw4.out) (by first | omega | (simp; done) | (simp; omega))⟩
              · clear k10_0 k10_1 k10_2 k10_3
                obtain ⟨k10_0, k10_1, k10_2, k10_3⟩ := cells4 (HX10_3.out W3 (Below.refl _ _))
                go_wp2_with fail
                refine Calls.mono (rright_is (cp + qty) cb cs cn (by have q0 := HF.out; have q1 := HIi9.out; simp only [Ce.fine, frame.inR, inI] at *; omega) HCb11.out _) ?_
                rintro e4 W4 ⟨rfl, hb⟩
                have HBw4 : Hid (Below w.heap.size w W4) := Lib.hid (HBw3.out.trans ((hb : Below W3.heap.size W3 W4).mono HBw3.out.size))
                have HB3_4 : Hid (Below W3.heap.size W3 W4) := Lib.hid (hb)
                clear hb
                have hu : u = (⟨(cp + qty), cb, cs, cn⟩, 0) := by
                  rw [← HU.out]
                  have x0 := HLz2.out
                  have x1 := HLz3.out
                  have x2 := HLz4.out
                  have x3 := HEz5.out
                  have x4 := HIi9.out
                  exact did_0 (d := ⟨(cp + qty), cb, cs, cn⟩) HCb1.out (by omega) (by omega) (by omega) (by unfold moved; first | (simp; done) | (simp [show ¬ side = 2 from HEz5.out]; done)) (by have q0 := HF.out; have q1 := HIi9.out; simp only [Ce.fine, frame.inR, inI] at *; omega) (right_iff.1 HCb11.out)
                subst hu
                clear HU
                clear k10_0 k10_1 k10_2 k10_3
                obtain ⟨k10_0, k10_1, k10_2, k10_3⟩ := cells4 (HX10_3.out W4 HB3_4.out)
                have hwh : World.whole W4 (w.heap.size + 1) 4 23 := whole_of (HX6_3.out W4 HB3_4.out) rfl
                go_wp2_with (refine wpList_store_whole 23 (.tmp 6) (.tmp 47) (w.heap.size + 1) 4 _ 23 (by rfl) (by rfl) hwh (by rfl) (by kernel_rfl) (by kernel_rfl) ?_)
                obtain ⟨v0, v1, v2, v3⟩ := cells4 (setAll_self (vs := #[.int .i64 (cp + qty), .int .i64 cb, .int .i64 cs, .int .i64 cn]) hwh rfl)
                exact bodyPost_ret (v := .tuple #[.agg #[.int .i64 (cp + qty), .int .i64 cb, .int .i64 cs, .int .i64 cn], .int .i64 0]) (by simp [results, Try.results17, go_sem, v0, v1, v2, v3]) rfl ⟨rfl, setAll_below (HBw4.out) (by first | omega | (simp; done) | (simp; omega))⟩
            · have HIi9 := Lib.hid hii9
              clear hii9
              clear k3_0 k3_1 k3_2 k3_3
              obtain ⟨k3_0, k3_1, k3_2, k3_3⟩ := cells4 (HX0_0.out W1 HB0_1.out)
              go_wp2_with fail
              refine Calls.mono (more_add_over cp qty _ HRcp.out HRqty.out HIi9.out) ?_
              rintro e9 W9 ⟨rfl, rfl⟩
              clear k3_0 k3_1 k3_2 k3_3
              obtain ⟨k3_0, k3_1, k3_2, k3_3⟩ := cells4 (HX0_0.out W1 HB0_1.out)
              go_upto_region 5 with fail
              obtain ⟨W2, HW2⟩ : ∃ W, Hid ((W1.alloc (.cells #[.int .i64 cp, .int .i64 cb, .int .i64 cs, .int .i64 cn] 23)) = W) := ⟨_, Lib.hid rfl⟩
              have NE_2_10_3 : Hid (w.heap.size ≠ W1.heap.size) := Lib.hid (Nat.ne_of_lt (Array.getElem?_eq_some_iff.1 (HX0_0.out W1 HB0_1.out)).1)
              have NE_2_10_6 : Hid (w.heap.size + 1 ≠ W1.heap.size) := Lib.hid (Nat.ne_of_lt (Array.getElem?_eq_some_iff.1 (HX1_0.out W1 HB0_1.out)).1)
              have LE_2 : Hid (w.heap.size ≤ W1.heap.size) := Lib.hid HBw1.out.size
              have HBw2 : Hid (Below w.heap.size w W2) := Lib.hid (HBw1.out.trans ((by rw [← HW2.out]; exact (Below.refl _ _).alloc (Nat.le_refl _) _ : Below W1.heap.size W1 W2).mono HBw1.out.size))
              have HB0_2 : Hid (Below W0.heap.size W0 W2) := Lib.hid (HB0_1.out.trans ((by rw [← HW2.out]; exact (Below.refl _ _).alloc (Nat.le_refl _) _ : Below W1.heap.size W1 W2).mono HB0_1.out.size))
              have HB1_2 : Hid (Below W1.heap.size W1 W2) := Lib.hid (by rw [← HW2.out]; exact (Below.refl _ _).alloc (Nat.le_refl _) _)
              have HX10_2 : Hid (∀ W, Below W2.heap.size W2 W → W.heap[W1.heap.size]? = some (.cells #[.int .i64 cp, .int .i64 cb, .int .i64 cs, .int .i64 cn] 23 (0, 0))) := Lib.hid (fun W hb => (hb.block _ (by rw [← HW2.out]; simp)).trans (by rw [← HW2.out]; exact heap_alloc_new _ _))
              rw [HW2.out]
              clear k3_0 k3_1 k3_2 k3_3
              obtain ⟨k10_0, k10_1, k10_2, k10_3⟩ := cells4 (HX10_2.out W2 (Below.refl _ _))
              have z10_0 := (block_cell (HX10_2.out W2 (Below.refl _ _)) 0 (.int .i64 cp) rfl).2
              go_upto_region 6 with fail
              clear z10_0
              have hS0 : W2.heap[W1.heap.size]? = some (.cells #[.int .i64 cp, .int .i64 cb, .int .i64 cs, .int .i64 cn] 23 (0, 0)) := HX10_2.out W2 (Below.refl _ _)
              have hS1 : (W2.setCell ⟨W1.heap.size, 0, none⟩ (.int .i64 0)).heap[W1.heap.size]? = some (.cells #[.int .i64 0, .int .i64 cb, .int .i64 cs, .int .i64 cn] 23 (0, 0)) := by have := heap_setCell_same W2 (W1.heap.size) 0 _ 23 (.int .i64 0) hS0; simpa using this
              obtain ⟨W3, HW3⟩ : ∃ W, Hid ((W2.setCell ⟨W1.heap.size, 0, none⟩ (.int .i64 0)) = W) := ⟨_, Lib.hid rfl⟩
              rw [HW3.out]
              rw [HW3.out] at hS1
              have HBw3 : Hid (Below w.heap.size w W3) := Lib.hid (by rw [← HW3.out]; exact (HBw2.out).setCell (p := ⟨W1.heap.size, 0, none⟩) (LE_2.out) _)
              have hsz : W3.heap.size = W2.heap.size := by rw [← HW3.out]; simp
              have HX3_3 : Hid (∀ W, Below W3.heap.size W3 W → W.heap[w.heap.size]? = some (.cells #[.int .i64 cp, .int .i64 cb, .int .i64 cs, .int .i64 cn] 23 (0, 0))) := Lib.hid (fun W hb => (hb.block _ (by rw [hsz]; exact (Array.getElem?_eq_some_iff.1 (HX0_0.out W2 HB0_2.out)).1)).trans (by rw [← HW3.out]; exact (Below.heap_setCell _ _ _ _ (NE_2_10_3.out)).trans ((HX0_0.out W2 HB0_2.out))))
              have HX6_3 : Hid (∀ W, Below W3.heap.size W3 W → W.heap[w.heap.size + 1]? = some (.cells #[.int .i64 0, .int .i64 0, .int .i64 0, .int .i64 0] 23 (0, 0))) := Lib.hid (fun W hb => (hb.block _ (by rw [hsz]; exact (Array.getElem?_eq_some_iff.1 (HX1_0.out W2 HB0_2.out)).1)).trans (by rw [← HW3.out]; exact (Below.heap_setCell _ _ _ _ (NE_2_10_6.out)).trans ((HX1_0.out W2 HB0_2.out))))
              have HX10_3 : Hid (∀ W, Below W3.heap.size W3 W → W.heap[W1.heap.size]? = some (.cells #[.int .i64 0, .int .i64 cb, .int .i64 cs, .int .i64 cn] 23 (0, 0))) := Lib.hid (fun W hb => (hb.block _ (by rw [hsz]; exact (Array.getElem?_eq_some_iff.1 (HX10_2.out W2 (Below.refl _ _))).1)).trans hS1)
              clear hsz hS0 hS1
              have hu : u = (⟨cp, cb, cs, cn⟩, 3) := by
                rw [← HU.out]
                have x0 := HLz2.out
                have x1 := HLz3.out
                have x2 := HLz4.out
                have x3 := HEz5.out
                have x4 := HIi9.out
                exact did_3 (d := ⟨(cp + qty), cb, cs, cn⟩) HCb1.out (by omega) (by omega) (by omega) (by unfold moved; first | (simp; done) | (simp [show ¬ side = 2 from HEz5.out]; done)) (fun h => by have := h.1; simp only [Ce.fine, frame.inR, inI] at *; omega)
              subst hu
              clear HU
              clear k10_0 k10_1 k10_2 k10_3
              obtain ⟨k3_0, k3_1, k3_2, k3_3⟩ := cells4 (HX3_3.out W3 (Below.refl _ _))
              have hwh : World.whole W3 (w.heap.size + 1) 4 23 := whole_of (HX6_3.out W3 (Below.refl _ _)) rfl
              go_wp2_with (refine wpList_store_whole 23 (.tmp 6) (.tmp 46) (w.heap.size + 1) 4 _ 23 (by rfl) (by rfl) hwh (by rfl) (by kernel_rfl) (by kernel_rfl) ?_)
              obtain ⟨v0, v1, v2, v3⟩ := cells4 (setAll_self (vs := #[.int .i64 cp, .int .i64 cb, .int .i64 cs, .int .i64 cn]) hwh rfl)
              exact bodyPost_ret (v := .tuple #[.agg #[.int .i64 cp, .int .i64 cb, .int .i64 cs, .int .i64 cn], .int .i64 3]) (by simp [results, Try.results17, go_sem, v0, v1, v2, v3]) rfl ⟨rfl, setAll_below (HBw3.out) (by first | omega | (simp; done) | (simp; omega))⟩
theorem rdid_is (cp cb cs cn : Int) (side qty : Int) {p' b' s' n' e : Int} (hf : (⟨cp, cb, cs, cn⟩ : Ce).fine) (hq : frame.inR qty) (h : did ⟨cp, cb, cs, cn⟩ side qty = (⟨p', b', s', n'⟩, e)) (w : World) : Calls Try.prog 17 #[.agg #[.int .i64 cp, .int .i64 cb, .int .i64 cs, .int .i64 cn], .int .i64 side, .int .i64 qty] w fun e' w' => e' = .returned (.tuple #[.agg #[.int .i64 p', .int .i64 b', .int .i64 s', .int .i64 n'], .int .i64 e]) ∧ Below w.heap.size w w' := by
  have key := rdid_any cp cb cs cn side qty hf hq w
  rw [h] at key
  exact key


end Go.Proofs.Ytkpapjdlpjjmbaa.cell
