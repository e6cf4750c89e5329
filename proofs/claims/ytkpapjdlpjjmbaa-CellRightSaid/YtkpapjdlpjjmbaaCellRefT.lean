/-
  The contract of the document's own answer for layer 8: Come.
-/
import Derived.Test.YtkpapjdlpjjmbaaCellRefR
import Derived.Test.YtkpapjdlpjjmbaaCellRefM
import Derived.Test.YtkpapjdlpjjmbaaOrdRef1
import Derived.Test.YtkpapjdlpjjmbaaOrdRefO
import Derived.Test.YtkpapjdlpjjmbaaOrdRefW
import Derived.Deep.DeepCutAuto
import Derived.Deep.DrawnRows
import Derived.Deep.RegionHeld
namespace Go.Proofs.Ytkpapjdlpjjmbaa.cell
open Go.RowKit Go.Proofs.Ytkpapjdlpjjmbaa
open Go.Proofs.Ytkpapjdlpjjmbaa.order (eq_cases)
attribute [local go_sem] undef
attribute [local go_sem ↓] Go.wp_at_zero Go.wp_at_succ
set_option linter.unusedVariables false
set_option linter.unusedSimpArgs false
set_option maxRecDepth 20000
set_option maxHeartbeats 8000000

theorem rturn_come_any (cp cb cs cn : Int) (i a y d q p f ph m r v : Int) (g : Bool) (hf : (⟨cp, cb, cs, cn⟩ : Ce).fine) (ho : (⟨i, a, y, d, q, p, f, ph, m, r, v, g⟩ : order.Or).fine) (w : World) : Calls Try.prog 27 #[.agg #[.int .i64 cp, .int .i64 cb, .int .i64 cs, .int .i64 cn], .agg #[.int .i64 i, .int .i64 a, .int .i64 y, .int .i64 d, .int .i64 q, .int .i64 p, .int .i64 f, .int .i64 ph, .int .i64 m, .int .i64 r, .int .i64 v, .bool g], .bool false] w fun e w' => e = .returned (.tuple #[.agg (cc (come ⟨cp, cb, cs, cn⟩ ⟨i, a, y, d, q, p, f, ph, m, r, v, g⟩).1), .int .i64 (come ⟨cp, cb, cs, cn⟩ ⟨i, a, y, d, q, p, f, ph, m, r, v, g⟩).2]) ∧ Below w.heap.size w w' := by
  obtain ⟨W0, HW0⟩ : ∃ W, Hid ((((w.alloc (.cells #[.int .i64 cp, .int .i64 cb, .int .i64 cs, .int .i64 cn] 23)).alloc (.cells #[.int .i64 i, .int .i64 a, .int .i64 y, .int .i64 d, .int .i64 q, .int .i64 p, .int .i64 f, .int .i64 ph, .int .i64 m, .int .i64 r, .int .i64 v, .bool g] 25)).alloc (.cells #[.int .i64 0, .int .i64 0, .int .i64 0, .int .i64 0] 23)) = W) := ⟨_, Lib.hid rfl⟩
  have HBw0 : Hid (Below w.heap.size w W0) := Lib.hid (by rw [← HW0.out]; exact (((Below.refl _ _).alloc (by simp) _).alloc (by simp; try omega) _).alloc (by simp; try omega) _)
  have HX0_0 : Hid (∀ W, Below W0.heap.size W0 W → W.heap[w.heap.size]? = some (.cells #[.int .i64 cp, .int .i64 cb, .int .i64 cs, .int .i64 cn] 23 (0, 0))) := Lib.hid (fun W hb => (hb.block _ (by rw [← HW0.out]; simp; try omega)).trans (by rw [← HW0.out]; refine (Below.heap_alloc _ _ _ (by simp; try omega)).trans ?_; refine (Below.heap_alloc _ _ _ (by simp; try omega)).trans ?_; have := heap_alloc_new w (.cells #[.int .i64 cp, .int .i64 cb, .int .i64 cs, .int .i64 cn] 23); exact this))
  have HX1_0 : Hid (∀ W, Below W0.heap.size W0 W → W.heap[w.heap.size + 1]? = some (.cells #[.int .i64 i, .int .i64 a, .int .i64 y, .int .i64 d, .int .i64 q, .int .i64 p, .int .i64 f, .int .i64 ph, .int .i64 m, .int .i64 r, .int .i64 v, .bool g] 25 (0, 0))) := Lib.hid (fun W hb => (hb.block _ (by rw [← HW0.out]; simp; try omega)).trans (by rw [← HW0.out]; refine (Below.heap_alloc _ _ _ (by simp; try omega)).trans ?_; have := heap_alloc_new (w.alloc (.cells #[.int .i64 cp, .int .i64 cb, .int .i64 cs, .int .i64 cn] 23)) (.cells #[.int .i64 i, .int .i64 a, .int .i64 y, .int .i64 d, .int .i64 q, .int .i64 p, .int .i64 f, .int .i64 ph, .int .i64 m, .int .i64 r, .int .i64 v, .bool g] 25); simp only [World.size_alloc] at this; exact this))
  have HX2_0 : Hid (∀ W, Below W0.heap.size W0 W → W.heap[w.heap.size + 1 + 1]? = some (.cells #[.int .i64 0, .int .i64 0, .int .i64 0, .int .i64 0] 23 (0, 0))) := Lib.hid (fun W hb => (hb.block _ (by rw [← HW0.out]; simp; try omega)).trans (by rw [← HW0.out]; have := heap_alloc_new ((w.alloc (.cells #[.int .i64 cp, .int .i64 cb, .int .i64 cs, .int .i64 cn] 23)).alloc (.cells #[.int .i64 i, .int .i64 a, .int .i64 y, .int .i64 d, .int .i64 q, .int .i64 p, .int .i64 f, .int .i64 ph, .int .i64 m, .int .i64 r, .int .i64 v, .bool g] 25)) (.cells #[.int .i64 0, .int .i64 0, .int .i64 0, .int .i64 0] 23); simp only [World.size_alloc] at this; exact this))
  have HRcp : Hid (inI cp) := Lib.hid (by simp only [Ce.fine, frame.inR] at hf; unfold inI; omega)
  have HRcb : Hid (inI cb) := Lib.hid (by simp only [Ce.fine, frame.inR] at hf; unfold inI; omega)
  have HRcs : Hid (inI cs) := Lib.hid (by simp only [Ce.fine, frame.inR] at hf; unfold inI; omega)
  have HRcn : Hid (inI cn) := Lib.hid (by simp only [Ce.fine, frame.inR] at hf; unfold inI; omega)
  have HF := Lib.hid hf
  have HFO := Lib.hid ho
  clear hf ho
  obtain ⟨u, HU⟩ : ∃ u, Hid (come ⟨cp, cb, cs, cn⟩ ⟨i, a, y, d, q, p, f, ph, m, r, v, g⟩ = u) := ⟨_, Lib.hid rfl⟩
  rw [HU.out]
  go_enter Try.func27, Try.ntmps27
  go_upto_region 1 with fail
  rw [HW0.out]
  obtain ⟨cb1, HCb1⟩ : ∃ x, Hid (right ⟨cp, cb, cs, cn⟩ = x) := ⟨_, Lib.hid rfl⟩
  rcases cb1 with _ | _
  · obtain ⟨k3_0, k3_1, k3_2, k3_3⟩ := cells4 (HX0_0.out W0 (Below.refl _ _))
    go_wp2_with fail
    refine Calls.mono (rright_is cp cb cs cn HF.out HCb1.out _) ?_
    rintro e1 W1 ⟨rfl, hb⟩
    have HBw1 : Hid (Below w.heap.size w W1) := Lib.hid (HBw0.out.trans ((hb : Below W0.heap.size W0 W1).mono HBw0.out.size))
    have HB0_1 : Hid (Below W0.heap.size W0 W1) := Lib.hid (hb)
    clear hb
    have hu : u = (⟨cp, cb, cs, cn⟩, 1) := by
      rw [← HU.out]
      exact come_1 HCb1.out
    subst hu
    clear HU
    clear k3_0 k3_1 k3_2 k3_3
    obtain ⟨k3_0, k3_1, k3_2, k3_3⟩ := cells4 (HX0_0.out W1 HB0_1.out)
    have hwh : World.whole W1 (w.heap.size + 1 + 1) 4 23 := whole_of (HX2_0.out W1 HB0_1.out) rfl
    go_wp2_with (refine wpList_store_whole 23 (.tmp 6) (.tmp 23) (w.heap.size + 1 + 1) 4 _ 23 (by rfl) (by rfl) hwh (by rfl) (by kernel_rfl) (by kernel_rfl) ?_)
    obtain ⟨v0, v1, v2, v3⟩ := cells4 (setAll_self (vs := #[.int .i64 cp, .int .i64 cb, .int .i64 cs, .int .i64 cn]) hwh rfl)
    exact bodyPost_ret (v := .tuple #[.agg #[.int .i64 cp, .int .i64 cb, .int .i64 cs, .int .i64 cn], .int .i64 1]) (by simp [results, Try.results27, go_sem, v0, v1, v2, v3]) rfl ⟨rfl, setAll_below (HBw1.out) (by first | omega | (simp; done) | (simp; omega))⟩
  · obtain ⟨k3_0, k3_1, k3_2, k3_3⟩ := cells4 (HX0_0.out W0 (Below.refl _ _))
    go_wp2_with fail
    refine Calls.mono (rright_is cp cb cs cn HF.out HCb1.out _) ?_
    rintro e1 W1 ⟨rfl, hb⟩
    have HBw1 : Hid (Below w.heap.size w W1) := Lib.hid (HBw0.out.trans ((hb : Below W0.heap.size W0 W1).mono HBw0.out.size))
    have HB0_1 : Hid (Below W0.heap.size W0 W1) := Lib.hid (hb)
    clear hb
    obtain ⟨cb2, HCb2⟩ : ∃ x, Hid (order.right ⟨i, a, y, d, q, p, f, ph, m, r, v, g⟩ = x) := ⟨_, Lib.hid rfl⟩
    rcases cb2 with _ | _
    · clear k3_0 k3_1 k3_2 k3_3
      obtain ⟨k4_0, k4_1, k4_2, k4_3, k4_4, k4_5, k4_6, k4_7, k4_8, k4_9, k4_10, k4_11⟩ := order.cells12 (HX1_0.out W1 HB0_1.out)
      go_wp2_with fail
      refine Calls.mono (order.rright_is i a y d q p f ph m r v g HFO.out HCb2.out _) ?_
      rintro e2 W2 ⟨rfl, hb⟩
      have HBw2 : Hid (Below w.heap.size w W2) := Lib.hid (HBw1.out.trans ((hb : Below W1.heap.size W1 W2).mono HBw1.out.size))
      have HB0_2 : Hid (Below W0.heap.size W0 W2) := Lib.hid (HB0_1.out.trans ((hb : Below W1.heap.size W1 W2).mono HB0_1.out.size))
      have HB1_2 : Hid (Below W1.heap.size W1 W2) := Lib.hid (hb)
      clear hb
      have hu : u = (⟨cp, cb, cs, cn⟩, 1) := by
        rw [← HU.out]
        exact come_2 HCb2.out
      subst hu
      clear HU
      clear k4_0 k4_1 k4_2 k4_3 k4_4 k4_5 k4_6 k4_7 k4_8 k4_9 k4_10 k4_11
      obtain ⟨k3_0, k3_1, k3_2, k3_3⟩ := cells4 (HX0_0.out W2 HB0_2.out)
      have hwh : World.whole W2 (w.heap.size + 1 + 1) 4 23 := whole_of (HX2_0.out W2 HB0_2.out) rfl
      go_wp2_with (refine wpList_store_whole 23 (.tmp 6) (.tmp 23) (w.heap.size + 1 + 1) 4 _ 23 (by rfl) (by rfl) hwh (by rfl) (by kernel_rfl) (by kernel_rfl) ?_)
      obtain ⟨v0, v1, v2, v3⟩ := cells4 (setAll_self (vs := #[.int .i64 cp, .int .i64 cb, .int .i64 cs, .int .i64 cn]) hwh rfl)
      exact bodyPost_ret (v := .tuple #[.agg #[.int .i64 cp, .int .i64 cb, .int .i64 cs, .int .i64 cn], .int .i64 1]) (by simp [results, Try.results27, go_sem, v0, v1, v2, v3]) rfl ⟨rfl, setAll_below (HBw2.out) (by first | omega | (simp; done) | (simp; omega))⟩
    · clear k3_0 k3_1 k3_2 k3_3
      obtain ⟨k4_0, k4_1, k4_2, k4_3, k4_4, k4_5, k4_6, k4_7, k4_8, k4_9, k4_10, k4_11⟩ := order.cells12 (HX1_0.out W1 HB0_1.out)
      go_wp2_with fail
      refine Calls.mono (order.rright_is i a y d q p f ph m r v g HFO.out HCb2.out _) ?_
      rintro e2 W2 ⟨rfl, hb⟩
      have HBw2 : Hid (Below w.heap.size w W2) := Lib.hid (HBw1.out.trans ((hb : Below W1.heap.size W1 W2).mono HBw1.out.size))
      have HB0_2 : Hid (Below W0.heap.size W0 W2) := Lib.hid (HB0_1.out.trans ((hb : Below W1.heap.size W1 W2).mono HB0_1.out.size))
      have HB1_2 : Hid (Below W1.heap.size W1 W2) := Lib.hid (hb)
      clear hb
      obtain ⟨wv, we, HWV⟩ : ∃ x z, Hid (order.worth ⟨i, a, y, d, q, p, f, ph, m, r, v, g⟩ = (x, z)) := ⟨_, _, Lib.hid rfl⟩
      have HRwv : Hid (inI wv) := Lib.hid (by have := worth_in ⟨i, a, y, d, q, p, f, ph, m, r, v, g⟩; rw [HWV.out] at this; exact this)
      clear k4_0 k4_1 k4_2 k4_3 k4_4 k4_5 k4_6 k4_7 k4_8 k4_9 k4_10 k4_11
      obtain ⟨k4_0, k4_1, k4_2, k4_3, k4_4, k4_5, k4_6, k4_7, k4_8, k4_9, k4_10, k4_11⟩ := order.cells12 (HX1_0.out W2 HB0_2.out)
      go_wp2_with fail
      refine Calls.mono (order.rworth_is i a y d q p f ph m r v g HFO.out HWV.out _) ?_
      rintro e3 W3 ⟨rfl, hb⟩
      have HBw3 : Hid (Below w.heap.size w W3) := Lib.hid (HBw2.out.trans ((hb : Below W2.heap.size W2 W3).mono HBw2.out.size))
      have HB0_3 : Hid (Below W0.heap.size W0 W3) := Lib.hid (HB0_2.out.trans ((hb : Below W2.heap.size W2 W3).mono HB0_2.out.size))
      have HB1_3 : Hid (Below W1.heap.size W1 W3) := Lib.hid (HB1_2.out.trans ((hb : Below W2.heap.size W2 W3).mono HB1_2.out.size))
      have HB2_3 : Hid (Below W2.heap.size W2 W3) := Lib.hid (hb)
      clear hb
      rcases eq_cases we 0 with ⟨HEz3, hez3, hfz3⟩ | ⟨HEz3, hez3, hfz3⟩
      · obtain rfl : we = 0 := HEz3.out
        clear k4_0 k4_1 k4_2 k4_3 k4_4 k4_5 k4_6 k4_7 k4_8 k4_9 k4_10 k4_11
        obtain ⟨k3_0, k3_1, k3_2, k3_3⟩ := cells4 (HX0_0.out W3 HB0_3.out)
        go_upto_region 7 with fail
        obtain ⟨W4, HW4⟩ : ∃ W, Hid ((W3.alloc (.cells #[.int .i64 cp, .int .i64 cb, .int .i64 cs, .int .i64 cn] 23)) = W) := ⟨_, Lib.hid rfl⟩
        have NE_4_10_3 : Hid (w.heap.size ≠ W3.heap.size) := Lib.hid (Nat.ne_of_lt (Array.getElem?_eq_some_iff.1 (HX0_0.out W3 HB0_3.out)).1)
        have NE_4_10_4 : Hid (w.heap.size + 1 ≠ W3.heap.size) := Lib.hid (Nat.ne_of_lt (Array.getElem?_eq_some_iff.1 (HX1_0.out W3 HB0_3.out)).1)
        have NE_4_10_6 : Hid (w.heap.size + 1 + 1 ≠ W3.heap.size) := Lib.hid (Nat.ne_of_lt (Array.getElem?_eq_some_iff.1 (HX2_0.out W3 HB0_3.out)).1)
        have LE_4 : Hid (w.heap.size ≤ W3.heap.size) := Lib.hid HBw3.out.size
        have HBw4 : Hid (Below w.heap.size w W4) := Lib.hid (HBw3.out.trans ((by rw [← HW4.out]; exact (Below.refl _ _).alloc (Nat.le_refl _) _ : Below W3.heap.size W3 W4).mono HBw3.out.size))
        have HB0_4 : Hid (Below W0.heap.size W0 W4) := Lib.hid (HB0_3.out.trans ((by rw [← HW4.out]; exact (Below.refl _ _).alloc (Nat.le_refl _) _ : Below W3.heap.size W3 W4).mono HB0_3.out.size))
        have HB1_4 : Hid (Below W1.heap.size W1 W4) := Lib.hid (HB1_3.out.trans ((by rw [← HW4.out]; exact (Below.refl _ _).alloc (Nat.le_refl _) _ : Below W3.heap.size W3 W4).mono HB1_3.out.size))
        have HB2_4 : Hid (Below W2.heap.size W2 W4) := Lib.hid (HB2_3.out.trans ((by rw [← HW4.out]; exact (Below.refl _ _).alloc (Nat.le_refl _) _ : Below W3.heap.size W3 W4).mono HB2_3.out.size))
        have HB3_4 : Hid (Below W3.heap.size W3 W4) := Lib.hid (by rw [← HW4.out]; exact (Below.refl _ _).alloc (Nat.le_refl _) _)
        have HX10_4 : Hid (∀ W, Below W4.heap.size W4 W → W.heap[W3.heap.size]? = some (.cells #[.int .i64 cp, .int .i64 cb, .int .i64 cs, .int .i64 cn] 23 (0, 0))) := Lib.hid (fun W hb => (hb.block _ (by rw [← HW4.out]; simp)).trans (by rw [← HW4.out]; exact heap_alloc_new _ _))
        rw [HW4.out]
        rcases eq_cases d 1 with ⟨HEz4, hez4, hfz4⟩ | ⟨HEz4, hez4, hfz4⟩
        · obtain rfl : d = 1 := HEz4.out
          obtain ⟨xo, HXO⟩ : ∃ x, Hid (order.open_ ⟨i, a, y, 1, q, p, f, ph, m, r, v, g⟩ = x) := ⟨_, Lib.hid rfl⟩
          have HRxo : Hid (inI xo) := Lib.hid (by have := open_in HFO.out; rw [HXO.out] at this; exact this)
          by_cases hii5 : inI (cb + xo)
          · have HIi5 := Lib.hid hii5
            clear hii5
            clear k3_0 k3_1 k3_2 k3_3
            obtain ⟨k4_0, k4_1, k4_2, k4_3, k4_4, k4_5, k4_6, k4_7, k4_8, k4_9, k4_10, k4_11⟩ := order.cells12 (HX1_0.out W4 HB0_4.out)
            go_upto_region 9 with fail
            clear k4_0 k4_1 k4_2 k4_3 k4_4 k4_5 k4_6 k4_7 k4_8 k4_9 k4_10 k4_11
            refine wp_region_held_drew (S := fun W => Below W4.heap.size W4 W) (by kernel_rfl) (Below.refl _ _).drew (fun _ => ?_)
            obtain ⟨W5, hW5⟩ : ∃ x, x = W4.drew := ⟨_, rfl⟩
            rw [← hW5]
            have HBw5 : Hid (Below w.heap.size w W5) := Lib.hid (HBw4.out.trans ((by rw [hW5]; exact (Below.refl _ _).drew : Below W4.heap.size W4 W5).mono HBw4.out.size))
            have HB0_5 : Hid (Below W0.heap.size W0 W5) := Lib.hid (HB0_4.out.trans ((by rw [hW5]; exact (Below.refl _ _).drew : Below W4.heap.size W4 W5).mono HB0_4.out.size))
            have HB1_5 : Hid (Below W1.heap.size W1 W5) := Lib.hid (HB1_4.out.trans ((by rw [hW5]; exact (Below.refl _ _).drew : Below W4.heap.size W4 W5).mono HB1_4.out.size))
            have HB2_5 : Hid (Below W2.heap.size W2 W5) := Lib.hid (HB2_4.out.trans ((by rw [hW5]; exact (Below.refl _ _).drew : Below W4.heap.size W4 W5).mono HB2_4.out.size))
            have HB3_5 : Hid (Below W3.heap.size W3 W5) := Lib.hid (HB3_4.out.trans ((by rw [hW5]; exact (Below.refl _ _).drew : Below W4.heap.size W4 W5).mono HB3_4.out.size))
            have HB4_5 : Hid (Below W4.heap.size W4 W5) := Lib.hid (by rw [hW5]; exact (Below.refl _ _).drew)
            clear hW5
            refine wpAnyH_take (i := 0) (v := .pointer (some ⟨w.heap.size, 1, none⟩)) rfl (by kernel_rfl) (by kernel_rfl) (by kernel_rfl) (fun _ _ _ h => h) (Or.inl ⟨by kernel_rfl, ?h0⟩) HB4_5.out ?_
            case h0 => (intro WX hWX; go_simp)
            go_simp
            refine wpAnyH_take (i := 1) (v := .int .i64 cb) rfl (by kernel_rfl) (by kernel_rfl) (by kernel_rfl) (fun _ _ _ h => h) (Or.inl ⟨by kernel_rfl, ?h1⟩) HB4_5.out ?_
            case h1 => (intro WX hWX; obtain ⟨y0, y1, y2, y3⟩ := cells4 (HX0_0.out WX (HB0_4.out.trans ((show Below W4.heap.size W4 WX from hWX).mono HB0_4.out.size))); go_simp)
            go_simp
            refine wpAnyH_take (i := 2) (v := .agg #[.int .i64 i, .int .i64 a, .int .i64 y, .int .i64 1, .int .i64 q, .int .i64 p, .int .i64 f, .int .i64 ph, .int .i64 m, .int .i64 r, .int .i64 v, .bool g]) rfl (by kernel_rfl) (by kernel_rfl) (by kernel_rfl) (fun _ _ _ h => h) (Or.inl ⟨by kernel_rfl, ?h2⟩) HB4_5.out ?_
            case h2 => (intro WX hWX; obtain ⟨y0, y1, y2, y3, y4, y5, y6, y7, y8, y9, y10, y11⟩ := order.cells12 (HX1_0.out WX (HB0_4.out.trans ((show Below W4.heap.size W4 WX from hWX).mono HB0_4.out.size))); go_simp)
            go_simp
            refine wpAnyH_take (i := 4) (v := .bool false) rfl (by kernel_rfl) (by kernel_rfl) (by kernel_rfl) (fun _ _ _ h => h) (Or.inl ⟨by kernel_rfl, ?h4⟩) HB4_5.out ?_
            case h4 => (intro WX hWX; go_simp)
            go_simp
            refine wpAnyH_ready (rs := [3]) (by kernel_rfl) (by simp) ?_
            refine AllReadyH.cons rfl (fun K hK => ?_) AllReadyH.nil
            go_simp
            go_wp2_with (refine Calls.mono (order.ropen_is i a y 1 q p f ph m r v g HFO.out HXO.out _) ?_; rintro e6 W6 ⟨rfl, hb⟩)
            have HBw6 : Hid (Below w.heap.size w W6) := Lib.hid (HBw5.out.trans ((hb : Below W5.heap.size W5 W6).mono HBw5.out.size))
            have HB0_6 : Hid (Below W0.heap.size W0 W6) := Lib.hid (HB0_5.out.trans ((hb : Below W5.heap.size W5 W6).mono HB0_5.out.size))
            have HB1_6 : Hid (Below W1.heap.size W1 W6) := Lib.hid (HB1_5.out.trans ((hb : Below W5.heap.size W5 W6).mono HB1_5.out.size))
            have HB2_6 : Hid (Below W2.heap.size W2 W6) := Lib.hid (HB2_5.out.trans ((hb : Below W5.heap.size W5 W6).mono HB2_5.out.size))
            have HB3_6 : Hid (Below W3.heap.size W3 W6) := Lib.hid (HB3_5.out.trans ((hb : Below W5.heap.size W5 W6).mono HB3_5.out.size))
            have HB4_6 : Hid (Below W4.heap.size W4 W6) := Lib.hid (HB4_5.out.trans ((hb : Below W5.heap.size W5 W6).mono HB4_5.out.size))
            have HB5_6 : Hid (Below W5.heap.size W5 W6) := Lib.hid (hb)
            clear hb
            refine hK.out _ _ HB4_6.out (fun _ => ?_)
            clear hK K
            go_simp
            refine wpAnyH_ready (rs := [5]) (by kernel_rfl) (by simp) ?_
            refine AllReadyH.cons rfl (fun K hK => ?_) AllReadyH.nil
            go_simp
            go_wp2_with (refine Calls.mono (more_add cb xo _ HRcb.out HRxo.out HIi5.out) ?_; rintro e9 W9 ⟨rfl, rfl⟩)
            refine hK.out _ _ HB4_6.out (fun _ => ?_)
            clear hK K
            go_simp
            refine wpAnyH_take (i := 6) (v := .tuple #[.int .i64 (cb + xo), .bool true]) rfl (by kernel_rfl) (by kernel_rfl) (by kernel_rfl) (fun _ _ _ h => h) (Or.inl ⟨by kernel_rfl, ?h6⟩) HB4_6.out ?_
            case h6 => (intro WX hWX; go_simp)
            go_simp
            refine wpAnyH_take (i := 7) (v := .int .i64 (cb + xo)) rfl (by kernel_rfl) (by kernel_rfl) (by kernel_rfl) (fun _ _ _ h => h) (Or.inl ⟨by kernel_rfl, ?h7⟩) HB4_6.out ?_
            case h7 => (intro WX hWX; go_simp)
            go_simp
            refine wpAnyH_take (i := 8) (v := .bool true) rfl (by kernel_rfl) (by kernel_rfl) (by kernel_rfl) (fun _ _ _ h => h) (Or.inl ⟨by kernel_rfl, ?h8⟩) HB4_6.out ?_
            case h8 => (intro WX hWX; go_simp)
            go_simp
            refine wpAnyH_take (i := 9) (v := .int .i64 (cb + xo)) rfl (by kernel_rfl) (by kernel_rfl) (by kernel_rfl) (fun _ _ _ h => h) (Or.inl ⟨by kernel_rfl, ?h9⟩) HB4_6.out ?_
            case h9 => (intro WX hWX; go_simp)
            go_simp
            refine wpAnyH_take (i := 10) (v := .bool true) rfl (by kernel_rfl) (by kernel_rfl) (by kernel_rfl) (fun _ _ _ h => h) (Or.inl ⟨by kernel_rfl, ?h10⟩) HB4_6.out ?_
            case h10 => (intro WX hWX; go_simp)
            go_simp
            refine wpAnyH_done (by kernel_rfl) ?_ _
            obtain ⟨k10_0, k10_1, k10_2, k10_3⟩ := cells4 (HX10_4.out W6 HB4_6.out)
            have z10_1 := (block_cell (HX10_4.out W6 HB4_6.out) 1 (.int .i64 cb) rfl).2
            go_upto_region 13 with fail
            clear z10_1
            have hS0 : W6.heap[W3.heap.size]? = some (.cells #[.int .i64 cp, .int .i64 cb, .int .i64 cs, .int .i64 cn] 23 (0, 0)) := HX10_4.out W6 HB4_6.out
            have hS1 : (W6.setCell ⟨W3.heap.size, 1, none⟩ (.int .i64 (cb + xo))).heap[W3.heap.size]? = some (.cells #[.int .i64 cp, .int .i64 (cb + xo), .int .i64 cs, .int .i64 cn] 23 (0, 0)) := by have := heap_setCell_same W6 (W3.heap.size) 1 _ 23 (.int .i64 (cb + xo)) hS0; simpa using this
            obtain ⟨W7, HW7⟩ : ∃ W, Hid ((W6.setCell ⟨W3.heap.size, 1, none⟩ (.int .i64 (cb + xo))) = W) := ⟨_, Lib.hid rfl⟩
            rw [HW7.out]
            rw [HW7.out] at hS1
            have HBw7 : Hid (Below w.heap.size w W7) := Lib.hid (by rw [← HW7.out]; exact (HBw6.out).setCell (p := ⟨W3.heap.size, 1, none⟩) (LE_4.out) _)
            have hsz : W7.heap.size = W6.heap.size := by rw [← HW7.out]; simp
            have HX3_7 : Hid (∀ W, Below W7.heap.size W7 W → W.heap[w.heap.size]? = some (.cells #[.int .i64 cp, .int .i64 cb, .int .i64 cs, .int .i64 cn] 23 (0, 0))) := Lib.hid (fun W hb => (hb.block _ (by rw [hsz]; exact (Array.getElem?_eq_some_iff.1 (HX0_0.out W6 HB0_6.out)).1)).trans (by rw [← HW7.out]; exact (Below.heap_setCell _ _ _ _ (NE_4_10_3.out)).trans ((HX0_0.out W6 HB0_6.out))))
            have HX4_7 : Hid (∀ W, Below W7.heap.size W7 W → W.heap[w.heap.size + 1]? = some (.cells #[.int .i64 i, .int .i64 a, .int .i64 y, .int .i64 1, .int .i64 q, .int .i64 p, .int .i64 f, .int .i64 ph, .int .i64 m, .int .i64 r, .int .i64 v, .bool g] 25 (0, 0))) := Lib.hid (fun W hb => (hb.block _ (by rw [hsz]; exact (Array.getElem?_eq_some_iff.1 (HX1_0.out W6 HB0_6.out)).1)).trans (by rw [← HW7.out]; exact (Below.heap_setCell _ _ _ _ (NE_4_10_4.out)).trans ((HX1_0.out W6 HB0_6.out))))
            have HX6_7 : Hid (∀ W, Below W7.heap.size W7 W → W.heap[w.heap.size + 1 + 1]? = some (.cells #[.int .i64 0, .int .i64 0, .int .i64 0, .int .i64 0] 23 (0, 0))) := Lib.hid (fun W hb => (hb.block _ (by rw [hsz]; exact (Array.getElem?_eq_some_iff.1 (HX2_0.out W6 HB0_6.out)).1)).trans (by rw [← HW7.out]; exact (Below.heap_setCell _ _ _ _ (NE_4_10_6.out)).trans ((HX2_0.out W6 HB0_6.out))))
            have HX10_7 : Hid (∀ W, Below W7.heap.size W7 W → W.heap[W3.heap.size]? = some (.cells #[.int .i64 cp, .int .i64 (cb + xo), .int .i64 cs, .int .i64 cn] 23 (0, 0))) := Lib.hid (fun W hb => (hb.block _ (by rw [hsz]; exact (Array.getElem?_eq_some_iff.1 (HX10_4.out W6 HB4_6.out)).1)).trans hS1)
            clear hsz hS0 hS1
            by_cases hii7 : inI (cn + wv)
            · have HIi7 := Lib.hid hii7
              clear hii7
              clear k10_0 k10_1 k10_2 k10_3
              obtain ⟨k3_0, k3_1, k3_2, k3_3⟩ := cells4 (HX3_7.out W7 (Below.refl _ _))
              go_wp2_with fail
              refine Calls.mono (more_add cn wv _ HRcn.out HRwv.out HIi7.out) ?_
              rintro e9 W9 ⟨rfl, rfl⟩
              clear k3_0 k3_1 k3_2 k3_3
              obtain ⟨k10_0, k10_1, k10_2, k10_3⟩ := cells4 (HX10_7.out W7 (Below.refl _ _))
              have z10_3 := (block_cell (HX10_7.out W7 (Below.refl _ _)) 3 (.int .i64 cn) rfl).2
              go_upto_region 15 with fail
              clear z10_3
              have hS0 : W7.heap[W3.heap.size]? = some (.cells #[.int .i64 cp, .int .i64 (cb + xo), .int .i64 cs, .int .i64 cn] 23 (0, 0)) := HX10_7.out W7 (Below.refl _ _)
              have hS1 : (W7.setCell ⟨W3.heap.size, 3, none⟩ (.int .i64 (cn + wv))).heap[W3.heap.size]? = some (.cells #[.int .i64 cp, .int .i64 (cb + xo), .int .i64 cs, .int .i64 (cn + wv)] 23 (0, 0)) := by have := heap_setCell_same W7 (W3.heap.size) 3 _ 23 (.int .i64 (cn + wv)) hS0; simpa using this
              obtain ⟨W8, HW8⟩ : ∃ W, Hid ((W7.setCell ⟨W3.heap.size, 3, none⟩ (.int .i64 (cn + wv))) = W) := ⟨_, Lib.hid rfl⟩
              rw [HW8.out]
              rw [HW8.out] at hS1
              have HBw8 : Hid (Below w.heap.size w W8) := Lib.hid (by rw [← HW8.out]; exact (HBw7.out).setCell (p := ⟨W3.heap.size, 3, none⟩) (LE_4.out) _)
              have hsz : W8.heap.size = W7.heap.size := by rw [← HW8.out]; simp
              have HX3_8 : Hid (∀ W, Below W8.heap.size W8 W → W.heap[w.heap.size]? = some (.cells #[.int .i64 cp, .int .i64 cb, .int .i64 cs, .int .i64 cn] 23 (0, 0))) := Lib.hid (fun W hb => (hb.block _ (by rw [hsz]; exact (Array.getElem?_eq_some_iff.1 (HX3_7.out W7 (Below.refl _ _))).1)).trans (by rw [← HW8.out]; exact (Below.heap_setCell _ _ _ _ (NE_4_10_3.out)).trans ((HX3_7.out W7 (Below.refl _ _)))))
              have HX4_8 : Hid (∀ W, Below W8.heap.size W8 W → W.heap[w.heap.size + 1]? = some (.cells #[.int .i64 i, .int .i64 a, .int .i64 y, .int .i64 1, .int .i64 q, .int .i64 p, .int .i64 f, .int .i64 ph, .int .i64 m, .int .i64 r, .int .i64 v, .bool g] 25 (0, 0))) := Lib.hid (fun W hb => (hb.block _ (by rw [hsz]; exact (Array.getElem?_eq_some_iff.1 (HX4_7.out W7 (Below.refl _ _))).1)).trans (by rw [← HW8.out]; exact (Below.heap_setCell _ _ _ _ (NE_4_10_4.out)).trans ((HX4_7.out W7 (Below.refl _ _)))))
              have HX6_8 : Hid (∀ W, Below W8.heap.size W8 W → W.heap[w.heap.size + 1 + 1]? = some (.cells #[.int .i64 0, .int .i64 0, .int .i64 0, .int .i64 0] 23 (0, 0))) := Lib.hid (fun W hb => (hb.block _ (by rw [hsz]; exact (Array.getElem?_eq_some_iff.1 (HX6_7.out W7 (Below.refl _ _))).1)).trans (by rw [← HW8.out]; exact (Below.heap_setCell _ _ _ _ (NE_4_10_6.out)).trans ((HX6_7.out W7 (Below.refl _ _)))))
              have HX10_8 : Hid (∀ W, Below W8.heap.size W8 W → W.heap[W3.heap.size]? = some (.cells #[.int .i64 cp, .int .i64 (cb + xo), .int .i64 cs, .int .i64 (cn + wv)] 23 (0, 0))) := Lib.hid (fun W hb => (hb.block _ (by rw [hsz]; exact (Array.getElem?_eq_some_iff.1 (HX10_7.out W7 (Below.refl _ _))).1)).trans hS1)
              clear hsz hS0 hS1
              obtain ⟨cb9, HCb9⟩ : ∃ x, Hid (right ⟨cp, (cb + xo), cs, (cn + wv)⟩ = x) := ⟨_, Lib.hid rfl⟩
              rcases cb9 with _ | _
              · clear k10_0 k10_1 k10_2 k10_3
                obtain ⟨k10_0, k10_1, k10_2, k10_3⟩ := cells4 (HX10_8.out W8 (Below.refl _ _))
                go_wp2_with fail
                refine Calls.mono (rright_is cp (cb + xo) cs (cn + wv) (by have q0 := HF.out; have q1 := HIi5.out; have q2 := HIi7.out; simp only [Ce.fine, frame.inR, inI] at *; omega) HCb9.out _) ?_
                rintro e9 W9 ⟨rfl, hb⟩
                have HBw9 : Hid (Below w.heap.size w W9) := Lib.hid (HBw8.out.trans ((hb : Below W8.heap.size W8 W9).mono HBw8.out.size))
                have HB8_9 : Hid (Below W8.heap.size W8 W9) := Lib.hid (hb)
                clear hb
                have hu : u = (⟨cp, cb, cs, cn⟩, 3) := by
                  rw [← HU.out]
                  exact come_4 (d := ⟨cp, (cb + xo), cs, (cn + wv)⟩) HCb1.out HCb2.out HWV.out HXO.out (by unfold turned; first | (simp; done) | (simp; omega)) (fun h => absurd (right_iff.2 h.2) (by rw [HCb9.out]; simp))
                subst hu
                clear HU
                clear k10_0 k10_1 k10_2 k10_3
                obtain ⟨k3_0, k3_1, k3_2, k3_3⟩ := cells4 (HX3_8.out W9 HB8_9.out)
                have hwh : World.whole W9 (w.heap.size + 1 + 1) 4 23 := whole_of (HX6_8.out W9 HB8_9.out) rfl
                go_wp2_with (refine wpList_store_whole 23 (.tmp 6) (.tmp 79) (w.heap.size + 1 + 1) 4 _ 23 (by rfl) (by rfl) hwh (by rfl) (by kernel_rfl) (by kernel_rfl) ?_)
                obtain ⟨v0, v1, v2, v3⟩ := cells4 (setAll_self (vs := #[.int .i64 cp, .int .i64 cb, .int .i64 cs, .int .i64 cn]) hwh rfl)
                exact bodyPost_ret (v := .tuple #[.agg #[.int .i64 cp, .int .i64 cb, .int .i64 cs, .int .i64 cn], .int .i64 3]) (by simp [results, Try.results27, go_sem, v0, v1, v2, v3]) rfl ⟨rfl, setAll_below (HBw9.out) (by first | omega | (simp; done) | (simp; omega))⟩
              · clear k10_0 k10_1 k10_2 k10_3
                obtain ⟨k10_0, k10_1, k10_2, k10_3⟩ := cells4 (HX10_8.out W8 (Below.refl _ _))
                go_wp2_with fail
                refine Calls.mono (rright_is cp (cb + xo) cs (cn + wv) (by have q0 := HF.out; have q1 := HIi5.out; have q2 := HIi7.out; simp only [Ce.fine, frame.inR, inI] at *; omega) HCb9.out _) ?_
                rintro e9 W9 ⟨rfl, hb⟩
                have HBw9 : Hid (Below w.heap.size w W9) := Lib.hid (HBw8.out.trans ((hb : Below W8.heap.size W8 W9).mono HBw8.out.size))
                have HB8_9 : Hid (Below W8.heap.size W8 W9) := Lib.hid (hb)
                clear hb
                have hu : u = (⟨cp, (cb + xo), cs, (cn + wv)⟩, 0) := by
                  rw [← HU.out]
                  exact come_0 (d := ⟨cp, (cb + xo), cs, (cn + wv)⟩) HCb1.out HCb2.out HWV.out HXO.out (by unfold turned; first | (simp; done) | (simp; omega)) (by have q0 := HF.out; have q1 := HIi5.out; have q2 := HIi7.out; simp only [Ce.fine, frame.inR, inI] at *; omega) (right_iff.1 HCb9.out)
                subst hu
                clear HU
                clear k10_0 k10_1 k10_2 k10_3
                obtain ⟨k10_0, k10_1, k10_2, k10_3⟩ := cells4 (HX10_8.out W9 HB8_9.out)
                have hwh : World.whole W9 (w.heap.size + 1 + 1) 4 23 := whole_of (HX6_8.out W9 HB8_9.out) rfl
                go_wp2_with (refine wpList_store_whole 23 (.tmp 6) (.tmp 80) (w.heap.size + 1 + 1) 4 _ 23 (by rfl) (by rfl) hwh (by rfl) (by kernel_rfl) (by kernel_rfl) ?_)
                obtain ⟨v0, v1, v2, v3⟩ := cells4 (setAll_self (vs := #[.int .i64 cp, .int .i64 (cb + xo), .int .i64 cs, .int .i64 (cn + wv)]) hwh rfl)
                exact bodyPost_ret (v := .tuple #[.agg #[.int .i64 cp, .int .i64 (cb + xo), .int .i64 cs, .int .i64 (cn + wv)], .int .i64 0]) (by simp [results, Try.results27, go_sem, v0, v1, v2, v3]) rfl ⟨rfl, setAll_below (HBw9.out) (by first | omega | (simp; done) | (simp; omega))⟩
            · have HIi7 := Lib.hid hii7
              clear hii7
              clear k10_0 k10_1 k10_2 k10_3
              obtain ⟨k3_0, k3_1, k3_2, k3_3⟩ := cells4 (HX3_7.out W7 (Below.refl _ _))
              go_wp2_with fail
              refine Calls.mono (more_add_over cn wv _ HRcn.out HRwv.out HIi7.out) ?_
              rintro e9 W9 ⟨rfl, rfl⟩
              clear k3_0 k3_1 k3_2 k3_3
              obtain ⟨k10_0, k10_1, k10_2, k10_3⟩ := cells4 (HX10_7.out W7 (Below.refl _ _))
              have z10_3 := (block_cell (HX10_7.out W7 (Below.refl _ _)) 3 (.int .i64 cn) rfl).2
              go_upto_region 15 with fail
              clear z10_3
              have hS0 : W7.heap[W3.heap.size]? = some (.cells #[.int .i64 cp, .int .i64 (cb + xo), .int .i64 cs, .int .i64 cn] 23 (0, 0)) := HX10_7.out W7 (Below.refl _ _)
              have hS1 : (W7.setCell ⟨W3.heap.size, 3, none⟩ (.int .i64 0)).heap[W3.heap.size]? = some (.cells #[.int .i64 cp, .int .i64 (cb + xo), .int .i64 cs, .int .i64 0] 23 (0, 0)) := by have := heap_setCell_same W7 (W3.heap.size) 3 _ 23 (.int .i64 0) hS0; simpa using this
              obtain ⟨W8, HW8⟩ : ∃ W, Hid ((W7.setCell ⟨W3.heap.size, 3, none⟩ (.int .i64 0)) = W) := ⟨_, Lib.hid rfl⟩
              rw [HW8.out]
              rw [HW8.out] at hS1
              have HBw8 : Hid (Below w.heap.size w W8) := Lib.hid (by rw [← HW8.out]; exact (HBw7.out).setCell (p := ⟨W3.heap.size, 3, none⟩) (LE_4.out) _)
              have hsz : W8.heap.size = W7.heap.size := by rw [← HW8.out]; simp
              have HX3_8 : Hid (∀ W, Below W8.heap.size W8 W → W.heap[w.heap.size]? = some (.cells #[.int .i64 cp, .int .i64 cb, .int .i64 cs, .int .i64 cn] 23 (0, 0))) := Lib.hid (fun W hb => (hb.block _ (by rw [hsz]; exact (Array.getElem?_eq_some_iff.1 (HX3_7.out W7 (Below.refl _ _))).1)).trans (by rw [← HW8.out]; exact (Below.heap_setCell _ _ _ _ (NE_4_10_3.out)).trans ((HX3_7.out W7 (Below.refl _ _)))))
              have HX4_8 : Hid (∀ W, Below W8.heap.size W8 W → W.heap[w.heap.size + 1]? = some (.cells #[.int .i64 i, .int .i64 a, .int .i64 y, .int .i64 1, .int .i64 q, .int .i64 p, .int .i64 f, .int .i64 ph, .int .i64 m, .int .i64 r, .int .i64 v, .bool g] 25 (0, 0))) := Lib.hid (fun W hb => (hb.block _ (by rw [hsz]; exact (Array.getElem?_eq_some_iff.1 (HX4_7.out W7 (Below.refl _ _))).1)).trans (by rw [← HW8.out]; exact (Below.heap_setCell _ _ _ _ (NE_4_10_4.out)).trans ((HX4_7.out W7 (Below.refl _ _)))))
              have HX6_8 : Hid (∀ W, Below W8.heap.size W8 W → W.heap[w.heap.size + 1 + 1]? = some (.cells #[.int .i64 0, .int .i64 0, .int .i64 0, .int .i64 0] 23 (0, 0))) := Lib.hid (fun W hb => (hb.block _ (by rw [hsz]; exact (Array.getElem?_eq_some_iff.1 (HX6_7.out W7 (Below.refl _ _))).1)).trans (by rw [← HW8.out]; exact (Below.heap_setCell _ _ _ _ (NE_4_10_6.out)).trans ((HX6_7.out W7 (Below.refl _ _)))))
              have HX10_8 : Hid (∀ W, Below W8.heap.size W8 W → W.heap[W3.heap.size]? = some (.cells #[.int .i64 cp, .int .i64 (cb + xo), .int .i64 cs, .int .i64 0] 23 (0, 0))) := Lib.hid (fun W hb => (hb.block _ (by rw [hsz]; exact (Array.getElem?_eq_some_iff.1 (HX10_7.out W7 (Below.refl _ _))).1)).trans hS1)
              clear hsz hS0 hS1
              have hu : u = (⟨cp, cb, cs, cn⟩, 3) := by
                rw [← HU.out]
                have x0 := HIi5.out
                have x1 := HIi7.out
                exact come_4 (d := ⟨cp, (cb + xo), cs, (cn + wv)⟩) HCb1.out HCb2.out HWV.out HXO.out (by unfold turned; first | (simp; done) | (simp; omega)) (fun h => by have := h.1; simp only [Ce.fine, frame.inR, inI] at *; omega)
              subst hu
              clear HU
              clear k10_0 k10_1 k10_2 k10_3
              obtain ⟨k3_0, k3_1, k3_2, k3_3⟩ := cells4 (HX3_8.out W8 (Below.refl _ _))
              have hwh : World.whole W8 (w.heap.size + 1 + 1) 4 23 := whole_of (HX6_8.out W8 (Below.refl _ _)) rfl
              go_wp2_with (refine wpList_store_whole 23 (.tmp 6) (.tmp 79) (w.heap.size + 1 + 1) 4 _ 23 (by rfl) (by rfl) hwh (by rfl) (by kernel_rfl) (by kernel_rfl) ?_)
              obtain ⟨v0, v1, v2, v3⟩ := cells4 (setAll_self (vs := #[.int .i64 cp, .int .i64 cb, .int .i64 cs, .int .i64 cn]) hwh rfl)
              exact bodyPost_ret (v := .tuple #[.agg #[.int .i64 cp, .int .i64 cb, .int .i64 cs, .int .i64 cn], .int .i64 3]) (by simp [results, Try.results27, go_sem, v0, v1, v2, v3]) rfl ⟨rfl, setAll_below (HBw8.out) (by first | omega | (simp; done) | (simp; omega))⟩
          · have HIi5 := Lib.hid hii5
            clear hii5
            clear k3_0 k3_1 k3_2 k3_3
            obtain ⟨k4_0, k4_1, k4_2, k4_3, k4_4, k4_5, k4_6, k4_7, k4_8, k4_9, k4_10, k4_11⟩ := order.cells12 (HX1_0.out W4 HB0_4.out)
            go_upto_region 9 with fail
            clear k4_0 k4_1 k4_2 k4_3 k4_4 k4_5 k4_6 k4_7 k4_8 k4_9 k4_10 k4_11
            refine wp_region_held_drew (S := fun W => Below W4.heap.size W4 W) (by kernel_rfl) (Below.refl _ _).drew (fun _ => ?_)
            obtain ⟨W5, hW5⟩ : ∃ x, x = W4.drew := ⟨_, rfl⟩
            rw [← hW5]
            have HBw5 : Hid (Below w.heap.size w W5) := Lib.hid (HBw4.out.trans ((by rw [hW5]; exact (Below.refl _ _).drew : Below W4.heap.size W4 W5).mono HBw4.out.size))
            have HB0_5 : Hid (Below W0.heap.size W0 W5) := Lib.hid (HB0_4.out.trans ((by rw [hW5]; exact (Below.refl _ _).drew : Below W4.heap.size W4 W5).mono HB0_4.out.size))
            have HB1_5 : Hid (Below W1.heap.size W1 W5) := Lib.hid (HB1_4.out.trans ((by rw [hW5]; exact (Below.refl _ _).drew : Below W4.heap.size W4 W5).mono HB1_4.out.size))
            have HB2_5 : Hid (Below W2.heap.size W2 W5) := Lib.hid (HB2_4.out.trans ((by rw [hW5]; exact (Below.refl _ _).drew : Below W4.heap.size W4 W5).mono HB2_4.out.size))
            have HB3_5 : Hid (Below W3.heap.size W3 W5) := Lib.hid (HB3_4.out.trans ((by rw [hW5]; exact (Below.refl _ _).drew : Below W4.heap.size W4 W5).mono HB3_4.out.size))
            have HB4_5 : Hid (Below W4.heap.size W4 W5) := Lib.hid (by rw [hW5]; exact (Below.refl _ _).drew)
            clear hW5
            refine wpAnyH_take (i := 0) (v := .pointer (some ⟨w.heap.size, 1, none⟩)) rfl (by kernel_rfl) (by kernel_rfl) (by kernel_rfl) (fun _ _ _ h => h) (Or.inl ⟨by kernel_rfl, ?h0⟩) HB4_5.out ?_
            case h0 => (intro WX hWX; go_simp)
            go_simp
            refine wpAnyH_take (i := 1) (v := .int .i64 cb) rfl (by kernel_rfl) (by kernel_rfl) (by kernel_rfl) (fun _ _ _ h => h) (Or.inl ⟨by kernel_rfl, ?h1⟩) HB4_5.out ?_
            case h1 => (intro WX hWX; obtain ⟨y0, y1, y2, y3⟩ := cells4 (HX0_0.out WX (HB0_4.out.trans ((show Below W4.heap.size W4 WX from hWX).mono HB0_4.out.size))); go_simp)
            go_simp
            refine wpAnyH_take (i := 2) (v := .agg #[.int .i64 i, .int .i64 a, .int .i64 y, .int .i64 1, .int .i64 q, .int .i64 p, .int .i64 f, .int .i64 ph, .int .i64 m, .int .i64 r, .int .i64 v, .bool g]) rfl (by kernel_rfl) (by kernel_rfl) (by kernel_rfl) (fun _ _ _ h => h) (Or.inl ⟨by kernel_rfl, ?h2⟩) HB4_5.out ?_
            case h2 => (intro WX hWX; obtain ⟨y0, y1, y2, y3, y4, y5, y6, y7, y8, y9, y10, y11⟩ := order.cells12 (HX1_0.out WX (HB0_4.out.trans ((show Below W4.heap.size W4 WX from hWX).mono HB0_4.out.size))); go_simp)
            go_simp
            refine wpAnyH_take (i := 4) (v := .bool false) rfl (by kernel_rfl) (by kernel_rfl) (by kernel_rfl) (fun _ _ _ h => h) (Or.inl ⟨by kernel_rfl, ?h4⟩) HB4_5.out ?_
            case h4 => (intro WX hWX; go_simp)
            go_simp
            refine wpAnyH_ready (rs := [3]) (by kernel_rfl) (by simp) ?_
            refine AllReadyH.cons rfl (fun K hK => ?_) AllReadyH.nil
            go_simp
            go_wp2_with (refine Calls.mono (order.ropen_is i a y 1 q p f ph m r v g HFO.out HXO.out _) ?_; rintro e6 W6 ⟨rfl, hb⟩)
            have HBw6 : Hid (Below w.heap.size w W6) := Lib.hid (HBw5.out.trans ((hb : Below W5.heap.size W5 W6).mono HBw5.out.size))
            have HB0_6 : Hid (Below W0.heap.size W0 W6) := Lib.hid (HB0_5.out.trans ((hb : Below W5.heap.size W5 W6).mono HB0_5.out.size))
            have HB1_6 : Hid (Below W1.heap.size W1 W6) := Lib.hid (HB1_5.out.trans ((hb : Below W5.heap.size W5 W6).mono HB1_5.out.size))
            have HB2_6 : Hid (Below W2.heap.size W2 W6) := Lib.hid (HB2_5.out.trans ((hb : Below W5.heap.size W5 W6).mono HB2_5.out.size))
            have HB3_6 : Hid (Below W3.heap.size W3 W6) := Lib.hid (HB3_5.out.trans ((hb : Below W5.heap.size W5 W6).mono HB3_5.out.size))
            have HB4_6 : Hid (Below W4.heap.size W4 W6) := Lib.hid (HB4_5.out.trans ((hb : Below W5.heap.size W5 W6).mono HB4_5.out.size))
            have HB5_6 : Hid (Below W5.heap.size W5 W6) := Lib.hid (hb)
            clear hb
            refine hK.out _ _ HB4_6.out (fun _ => ?_)
            clear hK K
            go_simp
            refine wpAnyH_ready (rs := [5]) (by kernel_rfl) (by simp) ?_
            refine AllReadyH.cons rfl (fun K hK => ?_) AllReadyH.nil
            go_simp
            go_wp2_with (refine Calls.mono (more_add_over cb xo _ HRcb.out HRxo.out HIi5.out) ?_; rintro e9 W9 ⟨rfl, rfl⟩)
            refine hK.out _ _ HB4_6.out (fun _ => ?_)
            clear hK K
            go_simp
            refine wpAnyH_take (i := 6) (v := .tuple #[.int .i64 0, .bool false]) rfl (by kernel_rfl) (by kernel_rfl) (by kernel_rfl) (fun _ _ _ h => h) (Or.inl ⟨by kernel_rfl, ?h6⟩) HB4_6.out ?_
            case h6 => (intro WX hWX; go_simp)
            go_simp
            refine wpAnyH_take (i := 7) (v := .int .i64 0) rfl (by kernel_rfl) (by kernel_rfl) (by kernel_rfl) (fun _ _ _ h => h) (Or.inl ⟨by kernel_rfl, ?h7⟩) HB4_6.out ?_
            case h7 => (intro WX hWX; go_simp)
            go_simp
            refine wpAnyH_take (i := 8) (v := .bool false) rfl (by kernel_rfl) (by kernel_rfl) (by kernel_rfl) (fun _ _ _ h => h) (Or.inl ⟨by kernel_rfl, ?h8⟩) HB4_6.out ?_
            case h8 => (intro WX hWX; go_simp)
            go_simp
            refine wpAnyH_take (i := 9) (v := .int .i64 0) rfl (by kernel_rfl) (by kernel_rfl) (by kernel_rfl) (fun _ _ _ h => h) (Or.inl ⟨by kernel_rfl, ?h9⟩) HB4_6.out ?_
            case h9 => (intro WX hWX; go_simp)
            go_simp
            refine wpAnyH_take (i := 10) (v := .bool false) rfl (by kernel_rfl) (by kernel_rfl) (by kernel_rfl) (fun _ _ _ h => h) (Or.inl ⟨by kernel_rfl, ?h10⟩) HB4_6.out ?_
            case h10 => (intro WX hWX; go_simp)
            go_simp
            refine wpAnyH_done (by kernel_rfl) ?_ _
            obtain ⟨k10_0, k10_1, k10_2, k10_3⟩ := cells4 (HX10_4.out W6 HB4_6.out)
            have z10_1 := (block_cell (HX10_4.out W6 HB4_6.out) 1 (.int .i64 cb) rfl).2
            go_upto_region 13 with fail
            clear z10_1
            have hS0 : W6.heap[W3.heap.size]? = some (.cells #[.int .i64 cp, .int .i64 cb, .int .i64 cs, .int .i64 cn] 23 (0, 0)) := HX10_4.out W6 HB4_6.out
            have hS1 : (W6.setCell ⟨W3.heap.size, 1, none⟩ (.int .i64 0)).heap[W3.heap.size]? = some (.cells #[.int .i64 cp, .int .i64 0, .int .i64 cs, .int .i64 cn] 23 (0, 0)) := by have := heap_setCell_same W6 (W3.heap.size) 1 _ 23 (.int .i64 0) hS0; simpa using this
            obtain ⟨W7, HW7⟩ : ∃ W, Hid ((W6.setCell ⟨W3.heap.size, 1, none⟩ (.int .i64 0)) = W) := ⟨_, Lib.hid rfl⟩
            rw [HW7.out]
            rw [HW7.out] at hS1
            have HBw7 : Hid (Below w.heap.size w W7) := Lib.hid (by rw [← HW7.out]; exact (HBw6.out).setCell (p := ⟨W3.heap.size, 1, none⟩) (LE_4.out) _)
            have hsz : W7.heap.size = W6.heap.size := by rw [← HW7.out]; simp
            have HX3_7 : Hid (∀ W, Below W7.heap.size W7 W → W.heap[w.heap.size]? = some (.cells #[.int .i64 cp, .int .i64 cb, .int .i64 cs, .int .i64 cn] 23 (0, 0))) := Lib.hid (fun W hb => (hb.block _ (by rw [hsz]; exact (Array.getElem?_eq_some_iff.1 (HX0_0.out W6 HB0_6.out)).1)).trans (by rw [← HW7.out]; exact (Below.heap_setCell _ _ _ _ (NE_4_10_3.out)).trans ((HX0_0.out W6 HB0_6.out))))
            have HX4_7 : Hid (∀ W, Below W7.heap.size W7 W → W.heap[w.heap.size + 1]? = some (.cells #[.int .i64 i, .int .i64 a, .int .i64 y, .int .i64 1, .int .i64 q, .int .i64 p, .int .i64 f, .int .i64 ph, .int .i64 m, .int .i64 r, .int .i64 v, .bool g] 25 (0, 0))) := Lib.hid (fun W hb => (hb.block _ (by rw [hsz]; exact (Array.getElem?_eq_some_iff.1 (HX1_0.out W6 HB0_6.out)).1)).trans (by rw [← HW7.out]; exact (Below.heap_setCell _ _ _ _ (NE_4_10_4.out)).trans ((HX1_0.out W6 HB0_6.out))))
            have HX6_7 : Hid (∀ W, Below W7.heap.size W7 W → W.heap[w.heap.size + 1 + 1]? = some (.cells #[.int .i64 0, .int .i64 0, .int .i64 0, .int .i64 0] 23 (0, 0))) := Lib.hid (fun W hb => (hb.block _ (by rw [hsz]; exact (Array.getElem?_eq_some_iff.1 (HX2_0.out W6 HB0_6.out)).1)).trans (by rw [← HW7.out]; exact (Below.heap_setCell _ _ _ _ (NE_4_10_6.out)).trans ((HX2_0.out W6 HB0_6.out))))
            have HX10_7 : Hid (∀ W, Below W7.heap.size W7 W → W.heap[W3.heap.size]? = some (.cells #[.int .i64 cp, .int .i64 0, .int .i64 cs, .int .i64 cn] 23 (0, 0))) := Lib.hid (fun W hb => (hb.block _ (by rw [hsz]; exact (Array.getElem?_eq_some_iff.1 (HX10_4.out W6 HB4_6.out)).1)).trans hS1)
            clear hsz hS0 hS1
            by_cases hii10 : inI (cn + wv)
            · have HIi10 := Lib.hid hii10
              clear hii10
              clear k10_0 k10_1 k10_2 k10_3
              obtain ⟨k3_0, k3_1, k3_2, k3_3⟩ := cells4 (HX3_7.out W7 (Below.refl _ _))
              go_wp2_with fail
              refine Calls.mono (more_add cn wv _ HRcn.out HRwv.out HIi10.out) ?_
              rintro e9 W9 ⟨rfl, rfl⟩
              clear k3_0 k3_1 k3_2 k3_3
              obtain ⟨k10_0, k10_1, k10_2, k10_3⟩ := cells4 (HX10_7.out W7 (Below.refl _ _))
              have z10_3 := (block_cell (HX10_7.out W7 (Below.refl _ _)) 3 (.int .i64 cn) rfl).2
              go_upto_region 15 with fail
              clear z10_3
              have hS0 : W7.heap[W3.heap.size]? = some (.cells #[.int .i64 cp, .int .i64 0, .int .i64 cs, .int .i64 cn] 23 (0, 0)) := HX10_7.out W7 (Below.refl _ _)
              have hS1 : (W7.setCell ⟨W3.heap.size, 3, none⟩ (.int .i64 (cn + wv))).heap[W3.heap.size]? = some (.cells #[.int .i64 cp, .int .i64 0, .int .i64 cs, .int .i64 (cn + wv)] 23 (0, 0)) := by have := heap_setCell_same W7 (W3.heap.size) 3 _ 23 (.int .i64 (cn + wv)) hS0; simpa using this
              obtain ⟨W8, HW8⟩ : ∃ W, Hid ((W7.setCell ⟨W3.heap.size, 3, none⟩ (.int .i64 (cn + wv))) = W) := ⟨_, Lib.hid rfl⟩
              rw [HW8.out]
              rw [HW8.out] at hS1
              have HBw8 : Hid (Below w.heap.size w W8) := Lib.hid (by rw [← HW8.out]; exact (HBw7.out).setCell (p := ⟨W3.heap.size, 3, none⟩) (LE_4.out) _)
              have hsz : W8.heap.size = W7.heap.size := by rw [← HW8.out]; simp
              have HX3_8 : Hid (∀ W, Below W8.heap.size W8 W → W.heap[w.heap.size]? = some (.cells #[.int .i64 cp, .int .i64 cb, .int .i64 cs, .int .i64 cn] 23 (0, 0))) := Lib.hid (fun W hb => (hb.block _ (by rw [hsz]; exact (Array.getElem?_eq_some_iff.1 (HX3_7.out W7 (Below.refl _ _))).1)).trans (by rw [← HW8.out]; exact (Below.heap_setCell _ _ _ _ (NE_4_10_3.out)).trans ((HX3_7.out W7 (Below.refl _ _)))))
              have HX4_8 : Hid (∀ W, Below W8.heap.size W8 W → W.heap[w.heap.size + 1]? = some (.cells #[.int .i64 i, .int .i64 a, .int .i64 y, .int .i64 1, .int .i64 q, .int .i64 p, .int .i64 f, .int .i64 ph, .int .i64 m, .int .i64 r, .int .i64 v, .bool g] 25 (0, 0))) := Lib.hid (fun W hb => (hb.block _ (by rw [hsz]; exact (Array.getElem?_eq_some_iff.1 (HX4_7.out W7 (Below.refl _ _))).1)).trans (by rw [← HW8.out]; exact (Below.heap_setCell _ _ _ _ (NE_4_10_4.out)).trans ((HX4_7.out W7 (Below.refl _ _)))))
              have HX6_8 : Hid (∀ W, Below W8.heap.size W8 W → W.heap[w.heap.size + 1 + 1]? = some (.cells #[.int .i64 0, .int .i64 0, .int .i64 0, .int .i64 0] 23 (0, 0))) := Lib.hid (fun W hb => (hb.block _ (by rw [hsz]; exact (Array.getElem?_eq_some_iff.1 (HX6_7.out W7 (Below.refl _ _))).1)).trans (by rw [← HW8.out]; exact (Below.heap_setCell _ _ _ _ (NE_4_10_6.out)).trans ((HX6_7.out W7 (Below.refl _ _)))))
              have HX10_8 : Hid (∀ W, Below W8.heap.size W8 W → W.heap[W3.heap.size]? = some (.cells #[.int .i64 cp, .int .i64 0, .int .i64 cs, .int .i64 (cn + wv)] 23 (0, 0))) := Lib.hid (fun W hb => (hb.block _ (by rw [hsz]; exact (Array.getElem?_eq_some_iff.1 (HX10_7.out W7 (Below.refl _ _))).1)).trans hS1)
              clear hsz hS0 hS1
              have hu : u = (⟨cp, cb, cs, cn⟩, 3) := by
                rw [← HU.out]
                have x0 := HIi5.out
                have x1 := HIi10.out
                exact come_4 (d := ⟨cp, (cb + xo), cs, (cn + wv)⟩) HCb1.out HCb2.out HWV.out HXO.out (by unfold turned; first | (simp; done) | (simp; omega)) (fun h => by have := h.1; simp only [Ce.fine, frame.inR, inI] at *; omega)
              subst hu
              clear HU
              clear k10_0 k10_1 k10_2 k10_3
              obtain ⟨k3_0, k3_1, k3_2, k3_3⟩ := cells4 (HX3_8.out W8 (Below.refl _ _))
              have hwh : World.whole W8 (w.heap.size + 1 + 1) 4 23 := whole_of (HX6_8.out W8 (Below.refl _ _)) rfl
              go_wp2_with (refine wpList_store_whole 23 (.tmp 6) (.tmp 79) (w.heap.size + 1 + 1) 4 _ 23 (by rfl) (by rfl) hwh (by rfl) (by kernel_rfl) (by kernel_rfl) ?_)
              obtain ⟨v0, v1, v2, v3⟩ := cells4 (setAll_self (vs := #[.int .i64 cp, .int .i64 cb, .int .i64 cs, .int .i64 cn]) hwh rfl)
              exact bodyPost_ret (v := .tuple #[.agg #[.int .i64 cp, .int .i64 cb, .int .i64 cs, .int .i64 cn], .int .i64 3]) (by simp [results, Try.results27, go_sem, v0, v1, v2, v3]) rfl ⟨rfl, setAll_below (HBw8.out) (by first | omega | (simp; done) | (simp; omega))⟩
            · have HIi10 := Lib.hid hii10
              clear hii10
              clear k10_0 k10_1 k10_2 k10_3
              obtain ⟨k3_0, k3_1, k3_2, k3_3⟩ := cells4 (HX3_7.out W7 (Below.refl _ _))
              go_wp2_with fail
              refine Calls.mono (more_add_over cn wv _ HRcn.out HRwv.out HIi10.out) ?_
              rintro e9 W9 ⟨rfl, rfl⟩
              clear k3_0 k3_1 k3_2 k3_3
              obtain ⟨k10_0, k10_1, k10_2, k10_3⟩ := cells4 (HX10_7.out W7 (Below.refl _ _))
              have z10_3 := (block_cell (HX10_7.out W7 (Below.refl _ _)) 3 (.int .i64 cn) rfl).2
              go_upto_region 15 with fail
              clear z10_3
              have hS0 : W7.heap[W3.heap.size]? = some (.cells #[.int .i64 cp, .int .i64 0, .int .i64 cs, .int .i64 cn] 23 (0, 0)) := HX10_7.out W7 (Below.refl _ _)
              have hS1 : (W7.setCell ⟨W3.heap.size, 3, none⟩ (.int .i64 0)).heap[W3.heap.size]? = some (.cells #[.int .i64 cp, .int .i64 0, .int .i64 cs, .int .i64 0] 23 (0, 0)) := by have := heap_setCell_same W7 (W3.heap.size) 3 _ 23 (.int .i64 0) hS0; simpa using this
              obtain ⟨W8, HW8⟩ : ∃ W, Hid ((W7.setCell ⟨W3.heap.size, 3, none⟩ (.int .i64 0)) = W) := ⟨_, Lib.hid rfl⟩
              rw [HW8.out]
              rw [HW8.out] at hS1
              have HBw8 : Hid (Below w.heap.size w W8) := Lib.hid (by rw [← HW8.out]; exact (HBw7.out).setCell (p := ⟨W3.heap.size, 3, none⟩) (LE_4.out) _)
              have hsz : W8.heap.size = W7.heap.size := by rw [← HW8.out]; simp
              have HX3_8 : Hid (∀ W, Below W8.heap.size W8 W → W.heap[w.heap.size]? = some (.cells #[.int .i64 cp, .int .i64 cb, .int .i64 cs, .int .i64 cn] 23 (0, 0))) := Lib.hid (fun W hb => (hb.block _ (by rw [hsz]; exact (Array.getElem?_eq_some_iff.1 (HX3_7.out W7 (Below.refl _ _))).1)).trans (by rw [← HW8.out]; exact (Below.heap_setCell _ _ _ _ (NE_4_10_3.out)).trans ((HX3_7.out W7 (Below.refl _ _)))))
              have HX4_8 : Hid (∀ W, Below W8.heap.size W8 W → W.heap[w.heap.size + 1]? = some (.cells #[.int .i64 i, .int .i64 a, .int .i64 y, .int .i64 1, .int .i64 q, .int .i64 p, .int .i64 f, .int .i64 ph, .int .i64 m, .int .i64 r, .int .i64 v, .bool g] 25 (0, 0))) := Lib.hid (fun W hb => (hb.block _ (by rw [hsz]; exact (Array.getElem?_eq_some_iff.1 (HX4_7.out W7 (Below.refl _ _))).1)).trans (by rw [← HW8.out]; exact (Below.heap_setCell _ _ _ _ (NE_4_10_4.out)).trans ((HX4_7.out W7 (Below.refl _ _)))))
              have HX6_8 : Hid (∀ W, Below W8.heap.size W8 W → W.heap[w.heap.size + 1 + 1]? = some (.cells #[.int .i64 0, .int .i64 0, .int .i64 0, .int .i64 0] 23 (0, 0))) := Lib.hid (fun W hb => (hb.block _ (by rw [hsz]; exact (Array.getElem?_eq_some_iff.1 (HX6_7.out W7 (Below.refl _ _))).1)).trans (by rw [← HW8.out]; exact (Below.heap_setCell _ _ _ _ (NE_4_10_6.out)).trans ((HX6_7.out W7 (Below.refl _ _)))))
              have HX10_8 : Hid (∀ W, Below W8.heap.size W8 W → W.heap[W3.heap.size]? = some (.cells #[.int .i64 cp, .int .i64 0, .int .i64 cs, .int .i64 0] 23 (0, 0))) := Lib.hid (fun W hb => (hb.block _ (by rw [hsz]; exact (Array.getElem?_eq_some_iff.1 (HX10_7.out W7 (Below.refl _ _))).1)).trans hS1)
              clear hsz hS0 hS1
              have hu : u = (⟨cp, cb, cs, cn⟩, 3) := by
                rw [← HU.out]
                have x0 := HIi5.out
                have x1 := HIi10.out
                exact come_4 (d := ⟨cp, (cb + xo), cs, (cn + wv)⟩) HCb1.out HCb2.out HWV.out HXO.out (by unfold turned; first | (simp; done) | (simp; omega)) (fun h => by have := h.1; simp only [Ce.fine, frame.inR, inI] at *; omega)
              subst hu
              clear HU
              clear k10_0 k10_1 k10_2 k10_3
              obtain ⟨k3_0, k3_1, k3_2, k3_3⟩ := cells4 (HX3_8.out W8 (Below.refl _ _))
              have hwh : World.whole W8 (w.heap.size + 1 + 1) 4 23 := whole_of (HX6_8.out W8 (Below.refl _ _)) rfl
              go_wp2_with (refine wpList_store_whole 23 (.tmp 6) (.tmp 79) (w.heap.size + 1 + 1) 4 _ 23 (by rfl) (by rfl) hwh (by rfl) (by kernel_rfl) (by kernel_rfl) ?_)
              obtain ⟨v0, v1, v2, v3⟩ := cells4 (setAll_self (vs := #[.int .i64 cp, .int .i64 cb, .int .i64 cs, .int .i64 cn]) hwh rfl)
              exact bodyPost_ret (v := .tuple #[.agg #[.int .i64 cp, .int .i64 cb, .int .i64 cs, .int .i64 cn], .int .i64 3]) (by simp [results, Try.results27, go_sem, v0, v1, v2, v3]) rfl ⟨rfl, setAll_below (HBw8.out) (by first | omega | (simp; done) | (simp; omega))⟩
        · obtain ⟨xo, HXO⟩ : ∃ x, Hid (order.open_ ⟨i, a, y, d, q, p, f, ph, m, r, v, g⟩ = x) := ⟨_, Lib.hid rfl⟩
          have HRxo : Hid (inI xo) := Lib.hid (by have := open_in HFO.out; rw [HXO.out] at this; exact this)
          by_cases hii12 : inI (cs + xo)
          · have HIi12 := Lib.hid hii12
            clear hii12
            clear k3_0 k3_1 k3_2 k3_3
            obtain ⟨k4_0, k4_1, k4_2, k4_3, k4_4, k4_5, k4_6, k4_7, k4_8, k4_9, k4_10, k4_11⟩ := order.cells12 (HX1_0.out W4 HB0_4.out)
            go_upto_region 11 with fail
            clear k4_0 k4_1 k4_2 k4_3 k4_4 k4_5 k4_6 k4_7 k4_8 k4_9 k4_10 k4_11
            refine wp_region_held_drew (S := fun W => Below W4.heap.size W4 W) (by kernel_rfl) (Below.refl _ _).drew (fun _ => ?_)
            obtain ⟨W5, hW5⟩ : ∃ x, x = W4.drew := ⟨_, rfl⟩
            rw [← hW5]
            have HBw5 : Hid (Below w.heap.size w W5) := Lib.hid (HBw4.out.trans ((by rw [hW5]; exact (Below.refl _ _).drew : Below W4.heap.size W4 W5).mono HBw4.out.size))
            have HB0_5 : Hid (Below W0.heap.size W0 W5) := Lib.hid (HB0_4.out.trans ((by rw [hW5]; exact (Below.refl _ _).drew : Below W4.heap.size W4 W5).mono HB0_4.out.size))
            have HB1_5 : Hid (Below W1.heap.size W1 W5) := Lib.hid (HB1_4.out.trans ((by rw [hW5]; exact (Below.refl _ _).drew : Below W4.heap.size W4 W5).mono HB1_4.out.size))
            have HB2_5 : Hid (Below W2.heap.size W2 W5) := Lib.hid (HB2_4.out.trans ((by rw [hW5]; exact (Below.refl _ _).drew : Below W4.heap.size W4 W5).mono HB2_4.out.size))
            have HB3_5 : Hid (Below W3.heap.size W3 W5) := Lib.hid (HB3_4.out.trans ((by rw [hW5]; exact (Below.refl _ _).drew : Below W4.heap.size W4 W5).mono HB3_4.out.size))
            have HB4_5 : Hid (Below W4.heap.size W4 W5) := Lib.hid (by rw [hW5]; exact (Below.refl _ _).drew)
            clear hW5
            refine wpAnyH_take (i := 0) (v := .pointer (some ⟨w.heap.size, 2, none⟩)) rfl (by kernel_rfl) (by kernel_rfl) (by kernel_rfl) (fun _ _ _ h => h) (Or.inl ⟨by kernel_rfl, ?h0⟩) HB4_5.out ?_
            case h0 => (intro WX hWX; go_simp)
            go_simp
            refine wpAnyH_take (i := 1) (v := .int .i64 cs) rfl (by kernel_rfl) (by kernel_rfl) (by kernel_rfl) (fun _ _ _ h => h) (Or.inl ⟨by kernel_rfl, ?h1⟩) HB4_5.out ?_
            case h1 => (intro WX hWX; obtain ⟨y0, y1, y2, y3⟩ := cells4 (HX0_0.out WX (HB0_4.out.trans ((show Below W4.heap.size W4 WX from hWX).mono HB0_4.out.size))); go_simp)
            go_simp
            refine wpAnyH_take (i := 2) (v := .agg #[.int .i64 i, .int .i64 a, .int .i64 y, .int .i64 d, .int .i64 q, .int .i64 p, .int .i64 f, .int .i64 ph, .int .i64 m, .int .i64 r, .int .i64 v, .bool g]) rfl (by kernel_rfl) (by kernel_rfl) (by kernel_rfl) (fun _ _ _ h => h) (Or.inl ⟨by kernel_rfl, ?h2⟩) HB4_5.out ?_
            case h2 => (intro WX hWX; obtain ⟨y0, y1, y2, y3, y4, y5, y6, y7, y8, y9, y10, y11⟩ := order.cells12 (HX1_0.out WX (HB0_4.out.trans ((show Below W4.heap.size W4 WX from hWX).mono HB0_4.out.size))); go_simp)
            go_simp
            refine wpAnyH_take (i := 4) (v := .bool false) rfl (by kernel_rfl) (by kernel_rfl) (by kernel_rfl) (fun _ _ _ h => h) (Or.inl ⟨by kernel_rfl, ?h4⟩) HB4_5.out ?_
            case h4 => (intro WX hWX; go_simp)
            go_simp
            refine wpAnyH_ready (rs := [3]) (by kernel_rfl) (by simp) ?_
            refine AllReadyH.cons rfl (fun K hK => ?_) AllReadyH.nil
            go_simp
            go_wp2_with (refine Calls.mono (order.ropen_is i a y d q p f ph m r v g HFO.out HXO.out _) ?_; rintro e6 W6 ⟨rfl, hb⟩)
            have HBw6 : Hid (Below w.heap.size w W6) := Lib.hid (HBw5.out.trans ((hb : Below W5.heap.size W5 W6).mono HBw5.out.size))
            have HB0_6 : Hid (Below W0.heap.size W0 W6) := Lib.hid (HB0_5.out.trans ((hb : Below W5.heap.size W5 W6).mono HB0_5.out.size))
            have HB1_6 : Hid (Below W1.heap.size W1 W6) := Lib.hid (HB1_5.out.trans ((hb : Below W5.heap.size W5 W6).mono HB1_5.out.size))
            have HB2_6 : Hid (Below W2.heap.size W2 W6) := Lib.hid (HB2_5.out.trans ((hb : Below W5.heap.size W5 W6).mono HB2_5.out.size))
            have HB3_6 : Hid (Below W3.heap.size W3 W6) := Lib.hid (HB3_5.out.trans ((hb : Below W5.heap.size W5 W6).mono HB3_5.out.size))
            have HB4_6 : Hid (Below W4.heap.size W4 W6) := Lib.hid (HB4_5.out.trans ((hb : Below W5.heap.size W5 W6).mono HB4_5.out.size))
            have HB5_6 : Hid (Below W5.heap.size W5 W6) := Lib.hid (hb)
            clear hb
            refine hK.out _ _ HB4_6.out (fun _ => ?_)
            clear hK K
            go_simp
            refine wpAnyH_ready (rs := [5]) (by kernel_rfl) (by simp) ?_
            refine AllReadyH.cons rfl (fun K hK => ?_) AllReadyH.nil
            go_simp
            go_wp2_with (refine Calls.mono (more_add cs xo _ HRcs.out HRxo.out HIi12.out) ?_; rintro e9 W9 ⟨rfl, rfl⟩)
            refine hK.out _ _ HB4_6.out (fun _ => ?_)
            clear hK K
            go_simp
            refine wpAnyH_take (i := 6) (v := .tuple #[.int .i64 (cs + xo), .bool true]) rfl (by kernel_rfl) (by kernel_rfl) (by kernel_rfl) (fun _ _ _ h => h) (Or.inl ⟨by kernel_rfl, ?h6⟩) HB4_6.out ?_
            case h6 => (intro WX hWX; go_simp)
            go_simp
            refine wpAnyH_take (i := 7) (v := .int .i64 (cs + xo)) rfl (by kernel_rfl) (by kernel_rfl) (by kernel_rfl) (fun _ _ _ h => h) (Or.inl ⟨by kernel_rfl, ?h7⟩) HB4_6.out ?_
            case h7 => (intro WX hWX; go_simp)
            go_simp
            refine wpAnyH_take (i := 8) (v := .bool true) rfl (by kernel_rfl) (by kernel_rfl) (by kernel_rfl) (fun _ _ _ h => h) (Or.inl ⟨by kernel_rfl, ?h8⟩) HB4_6.out ?_
            case h8 => (intro WX hWX; go_simp)
            go_simp
            refine wpAnyH_take (i := 9) (v := .int .i64 (cs + xo)) rfl (by kernel_rfl) (by kernel_rfl) (by kernel_rfl) (fun _ _ _ h => h) (Or.inl ⟨by kernel_rfl, ?h9⟩) HB4_6.out ?_
            case h9 => (intro WX hWX; go_simp)
            go_simp
            refine wpAnyH_take (i := 10) (v := .bool true) rfl (by kernel_rfl) (by kernel_rfl) (by kernel_rfl) (fun _ _ _ h => h) (Or.inl ⟨by kernel_rfl, ?h10⟩) HB4_6.out ?_
            case h10 => (intro WX hWX; go_simp)
            go_simp
            refine wpAnyH_done (by kernel_rfl) ?_ _
            obtain ⟨k10_0, k10_1, k10_2, k10_3⟩ := cells4 (HX10_4.out W6 HB4_6.out)
            have z10_2 := (block_cell (HX10_4.out W6 HB4_6.out) 2 (.int .i64 cs) rfl).2
            go_upto_region 13 with fail
            clear z10_2
            have hS0 : W6.heap[W3.heap.size]? = some (.cells #[.int .i64 cp, .int .i64 cb, .int .i64 cs, .int .i64 cn] 23 (0, 0)) := HX10_4.out W6 HB4_6.out
            have hS1 : (W6.setCell ⟨W3.heap.size, 2, none⟩ (.int .i64 (cs + xo))).heap[W3.heap.size]? = some (.cells #[.int .i64 cp, .int .i64 cb, .int .i64 (cs + xo), .int .i64 cn] 23 (0, 0)) := by have := heap_setCell_same W6 (W3.heap.size) 2 _ 23 (.int .i64 (cs + xo)) hS0; simpa using this
            obtain ⟨W7, HW7⟩ : ∃ W, Hid ((W6.setCell ⟨W3.heap.size, 2, none⟩ (.int .i64 (cs + xo))) = W) := ⟨_, Lib.hid rfl⟩
            rw [HW7.out]
            rw [HW7.out] at hS1
            have HBw7 : Hid (Below w.heap.size w W7) := Lib.hid (by rw [← HW7.out]; exact (HBw6.out).setCell (p := ⟨W3.heap.size, 2, none⟩) (LE_4.out) _)
            have hsz : W7.heap.size = W6.heap.size := by rw [← HW7.out]; simp
            have HX3_7 : Hid (∀ W, Below W7.heap.size W7 W → W.heap[w.heap.size]? = some (.cells #[.int .i64 cp, .int .i64 cb, .int .i64 cs, .int .i64 cn] 23 (0, 0))) := Lib.hid (fun W hb => (hb.block _ (by rw [hsz]; exact (Array.getElem?_eq_some_iff.1 (HX0_0.out W6 HB0_6.out)).1)).trans (by rw [← HW7.out]; exact (Below.heap_setCell _ _ _ _ (NE_4_10_3.out)).trans ((HX0_0.out W6 HB0_6.out))))
            have HX4_7 : Hid (∀ W, Below W7.heap.size W7 W → W.heap[w.heap.size + 1]? = some (.cells #[.int .i64 i, .int .i64 a, .int .i64 y, .int .i64 d, .int .i64 q, .int .i64 p, .int .i64 f, .int .i64 ph, .int .i64 m, .int .i64 r, .int .i64 v, .bool g] 25 (0, 0))) := Lib.hid (fun W hb => (hb.block _ (by rw [hsz]; exact (Array.getElem?_eq_some_iff.1 (HX1_0.out W6 HB0_6.out)).1)).trans (by rw [← HW7.out]; exact (Below.heap_setCell _ _ _ _ (NE_4_10_4.out)).trans ((HX1_0.out W6 HB0_6.out))))
            have HX6_7 : Hid (∀ W, Below W7.heap.size W7 W → W.heap[w.heap.size + 1 + 1]? = some (.cells #[.int .i64 0, .int .i64 0, .int .i64 0, .int .i64 0] 23 (0, 0))) := Lib.hid (fun W hb => (hb.block _ (by rw [hsz]; exact (Array.getElem?_eq_some_iff.1 (HX2_0.out W6 HB0_6.out)).1)).trans (by rw [← HW7.out]; exact (Below.heap_setCell _ _ _ _ (NE_4_10_6.out)).trans ((HX2_0.out W6 HB0_6.out))))
            have HX10_7 : Hid (∀ W, Below W7.heap.size W7 W → W.heap[W3.heap.size]? = some (.cells #[.int .i64 cp, .int .i64 cb, .int .i64 (cs + xo), .int .i64 cn] 23 (0, 0))) := Lib.hid (fun W hb => (hb.block _ (by rw [hsz]; exact (Array.getElem?_eq_some_iff.1 (HX10_4.out W6 HB4_6.out)).1)).trans hS1)
            clear hsz hS0 hS1
            by_cases hii14 : inI (cn + wv)
            · have HIi14 := Lib.hid hii14
              clear hii14
              clear k10_0 k10_1 k10_2 k10_3
              obtain ⟨k3_0, k3_1, k3_2, k3_3⟩ := cells4 (HX3_7.out W7 (Below.refl _ _))
              go_wp2_with fail
              refine Calls.mono (more_add cn wv _ HRcn.out HRwv.out HIi14.out) ?_
              rintro e9 W9 ⟨rfl, rfl⟩
              clear k3_0 k3_1 k3_2 k3_3
              obtain ⟨k10_0, k10_1, k10_2, k10_3⟩ := cells4 (HX10_7.out W7 (Below.refl _ _))
              have z10_3 := (block_cell (HX10_7.out W7 (Below.refl _ _)) 3 (.int .i64 cn) rfl).2
              go_upto_region 15 with fail
              clear z10_3
              have hS0 : W7.heap[W3.heap.size]? = some (.cells #[.int .i64 cp, .int .i64 cb, .int .i64 (cs + xo), .int .i64 cn] 23 (0, 0)) := HX10_7.out W7 (Below.refl _ _)
              have hS1 : (W7.setCell ⟨W3.heap.size, 3, none⟩ (.int .i64 (cn + wv))).heap[W3.heap.size]? = some (.cells #[.int .i64 cp, .int .i64 cb, .int .i64 (cs + xo), .int .i64 (cn + wv)] 23 (0, 0)) := by have := heap_setCell_same W7 (W3.heap.size) 3 _ 23 (.int .i64 (cn + wv)) hS0; simpa using this
              obtain ⟨W8, HW8⟩ : ∃ W, Hid ((W7.setCell ⟨W3.heap.size, 3, none⟩ (.int .i64 (cn + wv))) = W) := ⟨_, Lib.hid rfl⟩
              rw [HW8.out]
              rw [HW8.out] at hS1
              have HBw8 : Hid (Below w.heap.size w W8) := Lib.hid (by rw [← HW8.out]; exact (HBw7.out).setCell (p := ⟨W3.heap.size, 3, none⟩) (LE_4.out) _)
              have hsz : W8.heap.size = W7.heap.size := by rw [← HW8.out]; simp
              have HX3_8 : Hid (∀ W, Below W8.heap.size W8 W → W.heap[w.heap.size]? = some (.cells #[.int .i64 cp, .int .i64 cb, .int .i64 cs, .int .i64 cn] 23 (0, 0))) := Lib.hid (fun W hb => (hb.block _ (by rw [hsz]; exact (Array.getElem?_eq_some_iff.1 (HX3_7.out W7 (Below.refl _ _))).1)).trans (by rw [← HW8.out]; exact (Below.heap_setCell _ _ _ _ (NE_4_10_3.out)).trans ((HX3_7.out W7 (Below.refl _ _)))))
              have HX4_8 : Hid (∀ W, Below W8.heap.size W8 W → W.heap[w.heap.size + 1]? = some (.cells #[.int .i64 i, .int .i64 a, .int .i64 y, .int .i64 d, .int .i64 q, .int .i64 p, .int .i64 f, .int .i64 ph, .int .i64 m, .int .i64 r, .int .i64 v, .bool g] 25 (0, 0))) := Lib.hid (fun W hb => (hb.block _ (by rw [hsz]; exact (Array.getElem?_eq_some_iff.1 (HX4_7.out W7 (Below.refl _ _))).1)).trans (by rw [← HW8.out]; exact (Below.heap_setCell _ _ _ _ (NE_4_10_4.out)).trans ((HX4_7.out W7 (Below.refl _ _)))))
              have HX6_8 : Hid (∀ W, Below W8.heap.size W8 W → W.heap[w.heap.size + 1 + 1]? = some (.cells #[.int .i64 0, .int .i64 0, .int .i64 0, .int .i64 0] 23 (0, 0))) := Lib.hid (fun W hb => (hb.block _ (by rw [hsz]; exact (Array.getElem?_eq_some_iff.1 (HX6_7.out W7 (Below.refl _ _))).1)).trans (by rw [← HW8.out]; exact (Below.heap_setCell _ _ _ _ (NE_4_10_6.out)).trans ((HX6_7.out W7 (Below.refl _ _)))))
              have HX10_8 : Hid (∀ W, Below W8.heap.size W8 W → W.heap[W3.heap.size]? = some (.cells #[.int .i64 cp, .int .i64 cb, .int .i64 (cs + xo), .int .i64 (cn + wv)] 23 (0, 0))) := Lib.hid (fun W hb => (hb.block _ (by rw [hsz]; exact (Array.getElem?_eq_some_iff.1 (HX10_7.out W7 (Below.refl _ _))).1)).trans hS1)
              clear hsz hS0 hS1
              obtain ⟨cb16, HCb16⟩ : ∃ x, Hid (right ⟨cp, cb, (cs + xo), (cn + wv)⟩ = x) := ⟨_, Lib.hid rfl⟩
              rcases cb16 with _ | _
              · clear k10_0 k10_1 k10_2 k10_3
                obtain ⟨k10_0, k10_1, k10_2, k10_3⟩ := cells4 (HX10_8.out W8 (Below.refl _ _))
                go_wp2_with fail
                refine Calls.mono (rright_is cp cb (cs + xo) (cn + wv) (by have q0 := HF.out; have q1 := HIi12.out; have q2 := HIi14.out; simp only [Ce.fine, frame.inR, inI] at *; omega) HCb16.out _) ?_
                rintro e9 W9 ⟨rfl, hb⟩
                have HBw9 : Hid (Below w.heap.size w W9) := Lib.hid (HBw8.out.trans ((hb : Below W8.heap.size W8 W9).mono HBw8.out.size))
                have HB8_9 : Hid (Below W8.heap.size W8 W9) := Lib.hid (hb)
                clear hb
                have hu : u = (⟨cp, cb, cs, cn⟩, 3) := by
                  rw [← HU.out]
                  exact come_4 (d := ⟨cp, cb, (cs + xo), (cn + wv)⟩) HCb1.out HCb2.out HWV.out HXO.out (by unfold turned; first | (simp [show ¬ d = 1 from HEz4.out]; done) | (simp [show ¬ d = 1 from HEz4.out]; omega)) (fun h => absurd (right_iff.2 h.2) (by rw [HCb16.out]; simp))
                subst hu
                clear HU
                clear k10_0 k10_1 k10_2 k10_3
                obtain ⟨k3_0, k3_1, k3_2, k3_3⟩ := cells4 (HX3_8.out W9 HB8_9.out)
                have hwh : World.whole W9 (w.heap.size + 1 + 1) 4 23 := whole_of (HX6_8.out W9 HB8_9.out) rfl
                go_wp2_with (refine wpList_store_whole 23 (.tmp 6) (.tmp 79) (w.heap.size + 1 + 1) 4 _ 23 (by rfl) (by rfl) hwh (by rfl) (by kernel_rfl) (by kernel_rfl) ?_)
                obtain ⟨v0, v1, v2, v3⟩ := cells4 (setAll_self (vs := #[.int .i64 cp, .int .i64 cb, .int .i64 cs, .int .i64 cn]) hwh rfl)
                exact bodyPost_ret (v := .tuple #[.agg #[.int .i64 cp, .int .i64 cb, .int .i64 cs, .int .i64 cn], .int .i64 3]) (by simp [results, Try.results27, go_sem, v0, v1, v2, v3]) rfl ⟨rfl, setAll_below (HBw9.out) (by first | omega | (simp; done) | (simp; omega))⟩
              · clear k10_0 k10_1 k10_2 k10_3
                obtain ⟨k10_0, k10_1, k10_2, k10_3⟩ := cells4 (HX10_8.out W8 (Below.refl _ _))
                go_wp2_with fail
                refine Calls.mono (rright_is cp cb (cs + xo) (cn + wv) (by have q0 := HF.out; have q1 := HIi12.out; have q2 := HIi14.out; simp only [Ce.fine, frame.inR, inI] at *; omega) HCb16.out _) ?_
                rintro e9 W9 ⟨rfl, hb⟩
                have HBw9 : Hid (Below w.heap.size w W9) := Lib.hid (HBw8.out.trans ((hb : Below W8.heap.size W8 W9).mono HBw8.out.size))
                have HB8_9 : Hid (Below W8.heap.size W8 W9) := Lib.hid (hb)
                clear hb
                have hu : u = (⟨cp, cb, (cs + xo), (cn + wv)⟩, 0) := by
                  rw [← HU.out]
                  exact come_0 (d := ⟨cp, cb, (cs + xo), (cn + wv)⟩) HCb1.out HCb2.out HWV.out HXO.out (by unfold turned; first | (simp [show ¬ d = 1 from HEz4.out]; done) | (simp [show ¬ d = 1 from HEz4.out]; omega)) (by have q0 := HF.out; have q1 := HIi12.out; have q2 := HIi14.out; simp only [Ce.fine, frame.inR, inI] at *; omega) (right_iff.1 HCb16.out)
                subst hu
                clear HU
                clear k10_0 k10_1 k10_2 k10_3
                obtain ⟨k10_0, k10_1, k10_2, k10_3⟩ := cells4 (HX10_8.out W9 HB8_9.out)
                have hwh : World.whole W9 (w.heap.size + 1 + 1) 4 23 := whole_of (HX6_8.out W9 HB8_9.out) rfl
                go_wp2_with (refine wpList_store_whole 23 (.tmp 6) (.tmp 80) (w.heap.size + 1 + 1) 4 _ 23 (by rfl) (by rfl) hwh (by rfl) (by kernel_rfl) (by kernel_rfl) ?_)
                obtain ⟨v0, v1, v2, v3⟩ := cells4 (setAll_self (vs := #[.int .i64 cp, .int .i64 cb, .int .i64 (cs + xo), .int .i64 (cn + wv)]) hwh rfl)
                exact bodyPost_ret (v := .tuple #[.agg #[.int .i64 cp, .int .i64 cb, .int .i64 (cs + xo), .int .i64 (cn + wv)], .int .i64 0]) (by simp [results, Try.results27, go_sem, v0, v1, v2, v3]) rfl ⟨rfl, setAll_below (HBw9.out) (by first | omega | (simp; done) | (simp; omega))⟩
            · have HIi14 := Lib.hid hii14
              clear hii14
              clear k10_0 k10_1 k10_2 k10_3
              obtain ⟨k3_0, k3_1, k3_2, k3_3⟩ := cells4 (HX3_7.out W7 (Below.refl _ _))
              go_wp2_with fail
              refine Calls.mono (more_add_over cn wv _ HRcn.out HRwv.out HIi14.out) ?_
              rintro e9 W9 ⟨rfl, rfl⟩
              clear k3_0 k3_1 k3_2 k3_3
              obtain ⟨k10_0, k10_1, k10_2, k10_3⟩ := cells4 (HX10_7.out W7 (Below.refl _ _))
              have z10_3 := (block_cell (HX10_7.out W7 (Below.refl _ _)) 3 (.int .i64 cn) rfl).2
              go_upto_region 15 with fail
              clear z10_3
              have hS0 : W7.heap[W3.heap.size]? = some (.cells #[.int .i64 cp, .int .i64 cb, .int .i64 (cs + xo), .int .i64 cn] 23 (0, 0)) := HX10_7.out W7 (Below.refl _ _)
              have hS1 : (W7.setCell ⟨W3.heap.size, 3, none⟩ (.int .i64 0)).heap[W3.heap.size]? = some (.cells #[.int .i64 cp, .int .i64 cb, .int .i64 (cs + xo), .int .i64 0] 23 (0, 0)) := by have := heap_setCell_same W7 (W3.heap.size) 3 _ 23 (.int .i64 0) hS0; simpa using this
              obtain ⟨W8, HW8⟩ : ∃ W, Hid ((W7.setCell ⟨W3.heap.size, 3, none⟩ (.int .i64 0)) = W) := ⟨_, Lib.hid rfl⟩
              rw [HW8.out]
              rw [HW8.out] at hS1
              have HBw8 : Hid (Below w.heap.size w W8) := Lib.hid (by rw [← HW8.out]; exact (HBw7.out).setCell (p := ⟨W3.heap.size, 3, none⟩) (LE_4.out) _)
              have hsz : W8.heap.size = W7.heap.size := by rw [← HW8.out]; simp
              have HX3_8 : Hid (∀ W, Below W8.heap.size W8 W → W.heap[w.heap.size]? = some (.cells #[.int .i64 cp, .int .i64 cb, .int .i64 cs, .int .i64 cn] 23 (0, 0))) := Lib.hid (fun W hb => (hb.block _ (by rw [hsz]; exact (Array.getElem?_eq_some_iff.1 (HX3_7.out W7 (Below.refl _ _))).1)).trans (by rw [← HW8.out]; exact (Below.heap_setCell _ _ _ _ (NE_4_10_3.out)).trans ((HX3_7.out W7 (Below.refl _ _)))))
              have HX4_8 : Hid (∀ W, Below W8.heap.size W8 W → W.heap[w.heap.size + 1]? = some (.cells #[.int .i64 i, .int .i64 a, .int .i64 y, .int .i64 d, .int .i64 q, .int .i64 p, .int .i64 f, .int .i64 ph, .int .i64 m, .int .i64 r, .int .i64 v, .bool g] 25 (0, 0))) := Lib.hid (fun W hb => (hb.block _ (by rw [hsz]; exact (Array.getElem?_eq_some_iff.1 (HX4_7.out W7 (Below.refl _ _))).1)).trans (by rw [← HW8.out]; exact (Below.heap_setCell _ _ _ _ (NE_4_10_4.out)).trans ((HX4_7.out W7 (Below.refl _ _)))))
              have HX6_8 : Hid (∀ W, Below W8.heap.size W8 W → W.heap[w.heap.size + 1 + 1]? = some (.cells #[.int .i64 0, .int .i64 0, .int .i64 0, .int .i64 0] 23 (0, 0))) := Lib.hid (fun W hb => (hb.block _ (by rw [hsz]; exact (Array.getElem?_eq_some_iff.1 (HX6_7.out W7 (Below.refl _ _))).1)).trans (by rw [← HW8.out]; exact (Below.heap_setCell _ _ _ _ (NE_4_10_6.out)).trans ((HX6_7.out W7 (Below.refl _ _)))))
              have HX10_8 : Hid (∀ W, Below W8.heap.size W8 W → W.heap[W3.heap.size]? = some (.cells #[.int .i64 cp, .int .i64 cb, .int .i64 (cs + xo), .int .i64 0] 23 (0, 0))) := Lib.hid (fun W hb => (hb.block _ (by rw [hsz]; exact (Array.getElem?_eq_some_iff.1 (HX10_7.out W7 (Below.refl _ _))).1)).trans hS1)
              clear hsz hS0 hS1
              have hu : u = (⟨cp, cb, cs, cn⟩, 3) := by
                rw [← HU.out]
                have x0 := HIi12.out
                have x1 := HIi14.out
                exact come_4 (d := ⟨cp, cb, (cs + xo), (cn + wv)⟩) HCb1.out HCb2.out HWV.out HXO.out (by unfold turned; first | (simp [show ¬ d = 1 from HEz4.out]; done) | (simp [show ¬ d = 1 from HEz4.out]; omega)) (fun h => by have := h.1; simp only [Ce.fine, frame.inR, inI] at *; omega)
              subst hu
              clear HU
              clear k10_0 k10_1 k10_2 k10_3
              obtain ⟨k3_0, k3_1, k3_2, k3_3⟩ := cells4 (HX3_8.out W8 (Below.refl _ _))
              have hwh : World.whole W8 (w.heap.size + 1 + 1) 4 23 := whole_of (HX6_8.out W8 (Below.refl _ _)) rfl
              go_wp2_with (refine wpList_store_whole 23 (.tmp 6) (.tmp 79) (w.heap.size + 1 + 1) 4 _ 23 (by rfl) (by rfl) hwh (by rfl) (by kernel_rfl) (by kernel_rfl) ?_)
              obtain ⟨v0, v1, v2, v3⟩ := cells4 (setAll_self (vs := #[.int .i64 cp, .int .i64 cb, .int .i64 cs, .int .i64 cn]) hwh rfl)
              exact bodyPost_ret (v := .tuple #[.agg #[.int .i64 cp, .int .i64 cb, .int .i64 cs, .int .i64 cn], .int .i64 3]) (by simp [results, Try.results27, go_sem, v0, v1, v2, v3]) rfl ⟨rfl, setAll_below (HBw8.out) (by first | omega | (simp; done) | (simp; omega))⟩
          · have HIi12 := Lib.hid hii12
            clear hii12
            clear k3_0 k3_1 k3_2 k3_3
            obtain ⟨k4_0, k4_1, k4_2, k4_3, k4_4, k4_5, k4_6, k4_7, k4_8, k4_9, k4_10, k4_11⟩ := order.cells12 (HX1_0.out W4 HB0_4.out)
            go_upto_region 11 with fail
            clear k4_0 k4_1 k4_2 k4_3 k4_4 k4_5 k4_6 k4_7 k4_8 k4_9 k4_10 k4_11
            refine wp_region_held_drew (S := fun W => Below W4.heap.size W4 W) (by kernel_rfl) (Below.refl _ _).drew (fun _ => ?_)
            obtain ⟨W5, hW5⟩ : ∃ x, x = W4.drew := ⟨_, rfl⟩
            rw [← hW5]
            have HBw5 : Hid (Below w.heap.size w W5) := Lib.hid (HBw4.out.trans ((by rw [hW5]; exact (Below.refl _ _).drew : Below W4.heap.size W4 W5).mono HBw4.out.size))
            have HB0_5 : Hid (Below W0.heap.size W0 W5) := Lib.hid (HB0_4.out.trans ((by rw [hW5]; exact (Below.refl _ _).drew : Below W4.heap.size W4 W5).mono HB0_4.out.size))
            have HB1_5 : Hid (Below W1.heap.size W1 W5) := Lib.hid (HB1_4.out.trans ((by rw [hW5]; exact (Below.refl _ _).drew : Below W4.heap.size W4 W5).mono HB1_4.out.size))
            have HB2_5 : Hid (Below W2.heap.size W2 W5) := Lib.hid (HB2_4.out.trans ((by rw [hW5]; exact (Below.refl _ _).drew : Below W4.heap.size W4 W5).mono HB2_4.out.size))
            have HB3_5 : Hid (Below W3.heap.size W3 W5) := Lib.hid (HB3_4.out.trans ((by rw [hW5]; exact (Below.refl _ _).drew : Below W4.heap.size W4 W5).mono HB3_4.out.size))
            have HB4_5 : Hid (Below W4.heap.size W4 W5) := Lib.hid (by rw [hW5]; exact (Below.refl _ _).drew)
            clear hW5
            refine wpAnyH_take (i := 0) (v := .pointer (some ⟨w.heap.size, 2, none⟩)) rfl (by kernel_rfl) (by kernel_rfl) (by kernel_rfl) (fun _ _ _ h => h) (Or.inl ⟨by kernel_rfl, ?h0⟩) HB4_5.out ?_
            case h0 => (intro WX hWX; go_simp)
            go_simp
            refine wpAnyH_take (i := 1) (v := .int .i64 cs) rfl (by kernel_rfl) (by kernel_rfl) (by kernel_rfl) (fun _ _ _ h => h) (Or.inl ⟨by kernel_rfl, ?h1⟩) HB4_5.out ?_
            case h1 => (intro WX hWX; obtain ⟨y0, y1, y2, y3⟩ := cells4 (HX0_0.out WX (HB0_4.out.trans ((show Below W4.heap.size W4 WX from hWX).mono HB0_4.out.size))); go_simp)
            go_simp
            refine wpAnyH_take (i := 2) (v := .agg #[.int .i64 i, .int .i64 a, .int .i64 y, .int .i64 d, .int .i64 q, .int .i64 p, .int .i64 f, .int .i64 ph, .int .i64 m, .int .i64 r, .int .i64 v, .bool g]) rfl (by kernel_rfl) (by kernel_rfl) (by kernel_rfl) (fun _ _ _ h => h) (Or.inl ⟨by kernel_rfl, ?h2⟩) HB4_5.out ?_
            case h2 => (intro WX hWX; obtain ⟨y0, y1, y2, y3, y4, y5, y6, y7, y8, y9, y10, y11⟩ := order.cells12 (HX1_0.out WX (HB0_4.out.trans ((show Below W4.heap.size W4 WX from hWX).mono HB0_4.out.size))); go_simp)
            go_simp
            refine wpAnyH_take (i := 4) (v := .bool false) rfl (by kernel_rfl) (by kernel_rfl) (by kernel_rfl) (fun _ _ _ h => h) (Or.inl ⟨by kernel_rfl, ?h4⟩) HB4_5.out ?_
            case h4 => (intro WX hWX; go_simp)
            go_simp
            refine wpAnyH_ready (rs := [3]) (by kernel_rfl) (by simp) ?_
            refine AllReadyH.cons rfl (fun K hK => ?_) AllReadyH.nil
            go_simp
            go_wp2_with (refine Calls.mono (order.ropen_is i a y d q p f ph m r v g HFO.out HXO.out _) ?_; rintro e6 W6 ⟨rfl, hb⟩)
            have HBw6 : Hid (Below w.heap.size w W6) := Lib.hid (HBw5.out.trans ((hb : Below W5.heap.size W5 W6).mono HBw5.out.size))
            have HB0_6 : Hid (Below W0.heap.size W0 W6) := Lib.hid (HB0_5.out.trans ((hb : Below W5.heap.size W5 W6).mono HB0_5.out.size))
            have HB1_6 : Hid (Below W1.heap.size W1 W6) := Lib.hid (HB1_5.out.trans ((hb : Below W5.heap.size W5 W6).mono HB1_5.out.size))
            have HB2_6 : Hid (Below W2.heap.size W2 W6) := Lib.hid (HB2_5.out.trans ((hb : Below W5.heap.size W5 W6).mono HB2_5.out.size))
            have HB3_6 : Hid (Below W3.heap.size W3 W6) := Lib.hid (HB3_5.out.trans ((hb : Below W5.heap.size W5 W6).mono HB3_5.out.size))
            have HB4_6 : Hid (Below W4.heap.size W4 W6) := Lib.hid (HB4_5.out.trans ((hb : Below W5.heap.size W5 W6).mono HB4_5.out.size))
            have HB5_6 : Hid (Below W5.heap.size W5 W6) := Lib.hid (hb)
            clear hb
            refine hK.out _ _ HB4_6.out (fun _ => ?_)
            clear hK K
            go_simp
            refine wpAnyH_ready (rs := [5]) (by kernel_rfl) (by simp) ?_
            refine AllReadyH.cons rfl (fun K hK => ?_) AllReadyH.nil
            go_simp
            go_wp2_with (refine Calls.mono (more_add_over cs xo _ HRcs.out HRxo.out HIi12.out) ?_; rintro e9 W9 ⟨rfl, rfl⟩)
            refine hK.out _ _ HB4_6.out (fun _ => ?_)
            clear hK K
            go_simp
            refine wpAnyH_take (i := 6) (v := .tuple #[.int .i64 0, .bool false]) rfl (by kernel_rfl) (by kernel_rfl) (by kernel_rfl) (fun _ _ _ h => h) (Or.inl ⟨by kernel_rfl, ?h6⟩) HB4_6.out ?_
            case h6 => (intro WX hWX; go_simp)
            go_simp
            refine wpAnyH_take (i := 7) (v := .int .i64 0) rfl (by kernel_rfl) (by kernel_rfl) (by kernel_rfl) (fun _ _ _ h => h) (Or.inl ⟨by kernel_rfl, ?h7⟩) HB4_6.out ?_
            case h7 => (intro WX hWX; go_simp)
            go_simp
            refine wpAnyH_take (i := 8) (v := .bool false) rfl (by kernel_rfl) (by kernel_rfl) (by kernel_rfl) (fun _ _ _ h => h) (Or.inl ⟨by kernel_rfl, ?h8⟩) HB4_6.out ?_
            case h8 => (intro WX hWX; go_simp)
            go_simp
            refine wpAnyH_take (i := 9) (v := .int .i64 0) rfl (by kernel_rfl) (by kernel_rfl) (by kernel_rfl) (fun _ _ _ h => h) (Or.inl ⟨by kernel_rfl, ?h9⟩) HB4_6.out ?_
            case h9 => (intro WX hWX; go_simp)
            go_simp
            refine wpAnyH_take (i := 10) (v := .bool false) rfl (by kernel_rfl) (by kernel_rfl) (by kernel_rfl) (fun _ _ _ h => h) (Or.inl ⟨by kernel_rfl, ?h10⟩) HB4_6.out ?_
            case h10 => (intro WX hWX; go_simp)
            go_simp
            refine wpAnyH_done (by kernel_rfl) ?_ _
            obtain ⟨k10_0, k10_1, k10_2, k10_3⟩ := cells4 (HX10_4.out W6 HB4_6.out)
            have z10_2 := (block_cell (HX10_4.out W6 HB4_6.out) 2 (.int .i64 cs) rfl).2
            go_upto_region 13 with fail
            clear z10_2
            have hS0 : W6.heap[W3.heap.size]? = some (.cells #[.int .i64 cp, .int .i64 cb, .int .i64 cs, .int .i64 cn] 23 (0, 0)) := HX10_4.out W6 HB4_6.out
            have hS1 : (W6.setCell ⟨W3.heap.size, 2, none⟩ (.int .i64 0)).heap[W3.heap.size]? = some (.cells #[.int .i64 cp, .int .i64 cb, .int .i64 0, .int .i64 cn] 23 (0, 0)) := by have := heap_setCell_same W6 (W3.heap.size) 2 _ 23 (.int .i64 0) hS0; simpa using this
            obtain ⟨W7, HW7⟩ : ∃ W, Hid ((W6.setCell ⟨W3.heap.size, 2, none⟩ (.int .i64 0)) = W) := ⟨_, Lib.hid rfl⟩
            rw [HW7.out]
            rw [HW7.out] at hS1
            have HBw7 : Hid (Below w.heap.size w W7) := Lib.hid (by rw [← HW7.out]; exact (HBw6.out).setCell (p := ⟨W3.heap.size, 2, none⟩) (LE_4.out) _)
            have hsz : W7.heap.size = W6.heap.size := by rw [← HW7.out]; simp
            have HX3_7 : Hid (∀ W, Below W7.heap.size W7 W → W.heap[w.heap.size]? = some (.cells #[.int .i64 cp, .int .i64 cb, .int .i64 cs, .int .i64 cn] 23 (0, 0))) := Lib.hid (fun W hb => (hb.block _ (by rw [hsz]; exact (Array.getElem?_eq_some_iff.1 (HX0_0.out W6 HB0_6.out)).1)).trans (by rw [← HW7.out]; exact (Below.heap_setCell _ _ _ _ (NE_4_10_3.out)).trans ((HX0_0.out W6 HB0_6.out))))
            have HX4_7 : Hid (∀ W, Below W7.heap.size W7 W → W.heap[w.heap.size + 1]? = some (.cells #[.int .i64 i, .int .i64 a, .int .i64 y, .int .i64 d, .int .i64 q, .int .i64 p, .int .i64 f, .int .i64 ph, .int .i64 m, .int .i64 r, .int .i64 v, .bool g] 25 (0, 0))) := Lib.hid (fun W hb => (hb.block _ (by rw [hsz]; exact (Array.getElem?_eq_some_iff.1 (HX1_0.out W6 HB0_6.out)).1)).trans (by rw [← HW7.out]; exact (Below.heap_setCell _ _ _ _ (NE_4_10_4.out)).trans ((HX1_0.out W6 HB0_6.out))))
            have HX6_7 : Hid (∀ W, Below W7.heap.size W7 W → W.heap[w.heap.size + 1 + 1]? = some (.cells #[.int .i64 0, .int .i64 0, .int .i64 0, .int .i64 0] 23 (0, 0))) := Lib.hid (fun W hb => (hb.block _ (by rw [hsz]; exact (Array.getElem?_eq_some_iff.1 (HX2_0.out W6 HB0_6.out)).1)).trans (by rw [← HW7.out]; exact (Below.heap_setCell _ _ _ _ (NE_4_10_6.out)).trans ((HX2_0.out W6 HB0_6.out))))
            have HX10_7 : Hid (∀ W, Below W7.heap.size W7 W → W.heap[W3.heap.size]? = some (.cells #[.int .i64 cp, .int .i64 cb, .int .i64 0, .int .i64 cn] 23 (0, 0))) := Lib.hid (fun W hb => (hb.block _ (by rw [hsz]; exact (Array.getElem?_eq_some_iff.1 (HX10_4.out W6 HB4_6.out)).1)).trans hS1)
            clear hsz hS0 hS1
            by_cases hii17 : inI (cn + wv)
            · have HIi17 := Lib.hid hii17
              clear hii17
              clear k10_0 k10_1 k10_2 k10_3
              obtain ⟨k3_0, k3_1, k3_2, k3_3⟩ := cells4 (HX3_7.out W7 (Below.refl _ _))
              go_wp2_with fail
              refine Calls.mono (more_add cn wv _ HRcn.out HRwv.out HIi17.out) ?_
              rintro e9 W9 ⟨rfl, rfl⟩
              clear k3_0 k3_1 k3_2 k3_3
              obtain ⟨k10_0, k10_1, k10_2, k10_3⟩ := cells4 (HX10_7.out W7 (Below.refl _ _))
              have z10_3 := (block_cell (HX10_7.out W7 (Below.refl _ _)) 3 (.int .i64 cn) rfl).2
              go_upto_region 15 with fail
              clear z10_3
              have hS0 : W7.heap[W3.heap.size]? = some (.cells #[.int .i64 cp, .int .i64 cb, .int .i64 0, .int .i64 cn] 23 (0, 0)) := HX10_7.out W7 (Below.refl _ _)
              have hS1 : (W7.setCell ⟨W3.heap.size, 3, none⟩ (.int .i64 (cn + wv))).heap[W3.heap.size]? = some (.cells #[.int .i64 cp, .int .i64 cb, .int .i64 0, .int .i64 (cn + wv)] 23 (0, 0)) := by have := heap_setCell_same W7 (W3.heap.size) 3 _ 23 (.int .i64 (cn + wv)) hS0; simpa using this
              obtain ⟨W8, HW8⟩ : ∃ W, Hid ((W7.setCell ⟨W3.heap.size, 3, none⟩ (.int .i64 (cn + wv))) = W) := ⟨_, Lib.hid rfl⟩
              rw [HW8.out]
              rw [HW8.out] at hS1
              have HBw8 : Hid (Below w.heap.size w W8) := Lib.hid (by rw [← HW8.out]; exact (HBw7.out).setCell (p := ⟨W3.heap.size, 3, none⟩) (LE_4.out) _)
              have hsz : W8.heap.size = W7.heap.size := by rw [← HW8.out]; simp
              have HX3_8 : Hid (∀ W, Below W8.heap.size W8 W → W.heap[w.heap.size]? = some (.cells #[.int .i64 cp, .int .i64 cb, .int .i64 cs, .int .i64 cn] 23 (0, 0))) := Lib.hid (fun W hb => (hb.block _ (by rw [hsz]; exact (Array.getElem?_eq_some_iff.1 (HX3_7.out W7 (Below.refl _ _))).1)).trans (by rw [← HW8.out]; exact (Below.heap_setCell _ _ _ _ (NE_4_10_3.out)).trans ((HX3_7.out W7 (Below.refl _ _)))))
              have HX4_8 : Hid (∀ W, Below W8.heap.size W8 W → W.heap[w.heap.size + 1]? = some (.cells #[.int .i64 i, .int .i64 a, .int .i64 y, .int .i64 d, .int .i64 q, .int .i64 p, .int .i64 f, .int .i64 ph, .int .i64 m, .int .i64 r, .int .i64 v, .bool g] 25 (0, 0))) := Lib.hid (fun W hb => (hb.block _ (by rw [hsz]; exact (Array.getElem?_eq_some_iff.1 (HX4_7.out W7 (Below.refl _ _))).1)).trans (by rw [← HW8.out]; exact (Below.heap_setCell _ _ _ _ (NE_4_10_4.out)).trans ((HX4_7.out W7 (Below.refl _ _)))))
              have HX6_8 : Hid (∀ W, Below W8.heap.size W8 W → W.heap[w.heap.size + 1 + 1]? = some (.cells #[.int .i64 0, .int .i64 0, .int .i64 0, .int .i64 0] 23 (0, 0))) := Lib.hid (fun W hb => (hb.block _ (by rw [hsz]; exact (Array.getElem?_eq_some_iff.1 (HX6_7.out W7 (Below.refl _ _))).1)).trans (by rw [← HW8.out]; exact (Below.heap_setCell _ _ _ _ (NE_4_10_6.out)).trans ((HX6_7.out W7 (Below.refl _ _)))))
              have HX10_8 : Hid (∀ W, Below W8.heap.size W8 W → W.heap[W3.heap.size]? = some (.cells #[.int .i64 cp, .int .i64 cb, .int .i64 0, .int .i64 (cn + wv)] 23 (0, 0))) := Lib.hid (fun W hb => (hb.block _ (by rw [hsz]; exact (Array.getElem?_eq_some_iff.1 (HX10_7.out W7 (Below.refl _ _))).1)).trans hS1)
              clear hsz hS0 hS1
              have hu : u = (⟨cp, cb, cs, cn⟩, 3) := by
                rw [← HU.out]
                have x0 := HIi12.out
                have x1 := HIi17.out
                exact come_4 (d := ⟨cp, cb, (cs + xo), (cn + wv)⟩) HCb1.out HCb2.out HWV.out HXO.out (by unfold turned; first | (simp [show ¬ d = 1 from HEz4.out]; done) | (simp [show ¬ d = 1 from HEz4.out]; omega)) (fun h => by have := h.1; simp only [Ce.fine, frame.inR, inI] at *; omega)
              subst hu
              clear HU
              clear k10_0 k10_1 k10_2 k10_3
              obtain ⟨k3_0, k3_1, k3_2, k3_3⟩ := cells4 (HX3_8.out W8 (Below.refl _ _))
              have hwh : World.whole W8 (w.heap.size + 1 + 1) 4 23 := whole_of (HX6_8.out W8 (Below.refl _ _)) rfl
              go_wp2_with (refine wpList_store_whole 23 (.tmp 6) (.tmp 79) (w.heap.size + 1 + 1) 4 _ 23 (by rfl) (by rfl) hwh (by rfl) (by kernel_rfl) (by kernel_rfl) ?_)
              obtain ⟨v0, v1, v2, v3⟩ := cells4 (setAll_self (vs := #[.int .i64 cp, .int .i64 cb, .int .i64 cs, .int .i64 cn]) hwh rfl)
              exact bodyPost_ret (v := .tuple #[.agg #[.int .i64 cp, .int .i64 cb, .int .i64 cs, .int .i64 cn], .int .i64 3]) (by simp [results, Try.results27, go_sem, v0, v1, v2, v3]) rfl ⟨rfl, setAll_below (HBw8.out) (by first | omega | (simp; done) | (simp; omega))⟩
            · have HIi17 := Lib.hid hii17
              clear hii17
              clear k10_0 k10_1 k10_2 k10_3
              obtain ⟨k3_0, k3_1, k3_2, k3_3⟩ := cells4 (HX3_7.out W7 (Below.refl _ _))
              go_wp2_with fail
              refine Calls.mono (more_add_over cn wv _ HRcn.out HRwv.out HIi17.out) ?_
              rintro e9 W9 ⟨rfl, rfl⟩
              clear k3_0 k3_1 k3_2 k3_3
              obtain ⟨k10_0, k10_1, k10_2, k10_3⟩ := cells4 (HX10_7.out W7 (Below.refl _ _))
              have z10_3 := (block_cell (HX10_7.out W7 (Below.refl _ _)) 3 (.int .i64 cn) rfl).2
              go_upto_region 15 with fail
              clear z10_3
              have hS0 : W7.heap[W3.heap.size]? = some (.cells #[.int .i64 cp, .int .i64 cb, .int .i64 0, .int .i64 cn] 23 (0, 0)) := HX10_7.out W7 (Below.refl _ _)
              have hS1 : (W7.setCell ⟨W3.heap.size, 3, none⟩ (.int .i64 0)).heap[W3.heap.size]? = some (.cells #[.int .i64 cp, .int .i64 cb, .int .i64 0, .int .i64 0] 23 (0, 0)) := by have := heap_setCell_same W7 (W3.heap.size) 3 _ 23 (.int .i64 0) hS0; simpa using this
              obtain ⟨W8, HW8⟩ : ∃ W, Hid ((W7.setCell ⟨W3.heap.size, 3, none⟩ (.int .i64 0)) = W) := ⟨_, Lib.hid rfl⟩
              rw [HW8.out]
              rw [HW8.out] at hS1
              have HBw8 : Hid (Below w.heap.size w W8) := Lib.hid (by rw [← HW8.out]; exact (HBw7.out).setCell (p := ⟨W3.heap.size, 3, none⟩) (LE_4.out) _)
              have hsz : W8.heap.size = W7.heap.size := by rw [← HW8.out]; simp
              have HX3_8 : Hid (∀ W, Below W8.heap.size W8 W → W.heap[w.heap.size]? = some (.cells #[.int .i64 cp, .int .i64 cb, .int .i64 cs, .int .i64 cn] 23 (0, 0))) := Lib.hid (fun W hb => (hb.block _ (by rw [hsz]; exact (Array.getElem?_eq_some_iff.1 (HX3_7.out W7 (Below.refl _ _))).1)).trans (by rw [← HW8.out]; exact (Below.heap_setCell _ _ _ _ (NE_4_10_3.out)).trans ((HX3_7.out W7 (Below.refl _ _)))))
              have HX4_8 : Hid (∀ W, Below W8.heap.size W8 W → W.heap[w.heap.size + 1]? = some (.cells #[.int .i64 i, .int .i64 a, .int .i64 y, .int .i64 d, .int .i64 q, .int .i64 p, .int .i64 f, .int .i64 ph, .int .i64 m, .int .i64 r, .int .i64 v, .bool g] 25 (0, 0))) := Lib.hid (fun W hb => (hb.block _ (by rw [hsz]; exact (Array.getElem?_eq_some_iff.1 (HX4_7.out W7 (Below.refl _ _))).1)).trans (by rw [← HW8.out]; exact (Below.heap_setCell _ _ _ _ (NE_4_10_4.out)).trans ((HX4_7.out W7 (Below.refl _ _)))))
              have HX6_8 : Hid (∀ W, Below W8.heap.size W8 W → W.heap[w.heap.size + 1 + 1]? = some (.cells #[.int .i64 0, .int .i64 0, .int .i64 0, .int .i64 0] 23 (0, 0))) := Lib.hid (fun W hb => (hb.block _ (by rw [hsz]; exact (Array.getElem?_eq_some_iff.1 (HX6_7.out W7 (Below.refl _ _))).1)).trans (by rw [← HW8.out]; exact (Below.heap_setCell _ _ _ _ (NE_4_10_6.out)).trans ((HX6_7.out W7 (Below.refl _ _)))))
              have HX10_8 : Hid (∀ W, Below W8.heap.size W8 W → W.heap[W3.heap.size]? = some (.cells #[.int .i64 cp, .int .i64 cb, .int .i64 0, .int .i64 0] 23 (0, 0))) := Lib.hid (fun W hb => (hb.block _ (by rw [hsz]; exact (Array.getElem?_eq_some_iff.1 (HX10_7.out W7 (Below.refl _ _))).1)).trans hS1)
              clear hsz hS0 hS1
              have hu : u = (⟨cp, cb, cs, cn⟩, 3) := by
                rw [← HU.out]
                have x0 := HIi12.out
                have x1 := HIi17.out
                exact come_4 (d := ⟨cp, cb, (cs + xo), (cn + wv)⟩) HCb1.out HCb2.out HWV.out HXO.out (by unfold turned; first | (simp [show ¬ d = 1 from HEz4.out]; done) | (simp [show ¬ d = 1 from HEz4.out]; omega)) (fun h => by have := h.1; simp only [Ce.fine, frame.inR, inI] at *; omega)
              subst hu
              clear HU
              clear k10_0 k10_1 k10_2 k10_3
              obtain ⟨k3_0, k3_1, k3_2, k3_3⟩ := cells4 (HX3_8.out W8 (Below.refl _ _))
              have hwh : World.whole W8 (w.heap.size + 1 + 1) 4 23 := whole_of (HX6_8.out W8 (Below.refl _ _)) rfl
              go_wp2_with (refine wpList_store_whole 23 (.tmp 6) (.tmp 79) (w.heap.size + 1 + 1) 4 _ 23 (by rfl) (by rfl) hwh (by rfl) (by kernel_rfl) (by kernel_rfl) ?_)
              obtain ⟨v0, v1, v2, v3⟩ := cells4 (setAll_self (vs := #[.int .i64 cp, .int .i64 cb, .int .i64 cs, .int .i64 cn]) hwh rfl)
              exact bodyPost_ret (v := .tuple #[.agg #[.int .i64 cp, .int .i64 cb, .int .i64 cs, .int .i64 cn], .int .i64 3]) (by simp [results, Try.results27, go_sem, v0, v1, v2, v3]) rfl ⟨rfl, setAll_below (HBw8.out) (by first | omega | (simp; done) | (simp; omega))⟩
      · have hu : u = (⟨cp, cb, cs, cn⟩, 3) := by
          rw [← HU.out]
          exact come_3 HCb1.out HCb2.out HWV.out HEz3.out
        subst hu
        clear HU
        clear k4_0 k4_1 k4_2 k4_3 k4_4 k4_5 k4_6 k4_7 k4_8 k4_9 k4_10 k4_11
        obtain ⟨k3_0, k3_1, k3_2, k3_3⟩ := cells4 (HX0_0.out W3 HB0_3.out)
        have hwh : World.whole W3 (w.heap.size + 1 + 1) 4 23 := whole_of (HX2_0.out W3 HB0_3.out) rfl
        go_wp2_with (refine wpList_store_whole 23 (.tmp 6) (.tmp 31) (w.heap.size + 1 + 1) 4 _ 23 (by rfl) (by rfl) hwh (by rfl) (by kernel_rfl) (by kernel_rfl) ?_)
        obtain ⟨v0, v1, v2, v3⟩ := cells4 (setAll_self (vs := #[.int .i64 cp, .int .i64 cb, .int .i64 cs, .int .i64 cn]) hwh rfl)
        exact bodyPost_ret (v := .tuple #[.agg #[.int .i64 cp, .int .i64 cb, .int .i64 cs, .int .i64 cn], .int .i64 3]) (by simp [results, Try.results27, go_sem, v0, v1, v2, v3]) rfl ⟨rfl, setAll_below (HBw3.out) (by first | omega | (simp; done) | (simp; omega))⟩
theorem rturn_come_is (cp cb cs cn : Int) (i a y d q p f ph m r v : Int) (g : Bool) {p' b' s' n' e : Int} (hf : (⟨cp, cb, cs, cn⟩ : Ce).fine) (ho : (⟨i, a, y, d, q, p, f, ph, m, r, v, g⟩ : order.Or).fine) (h : come ⟨cp, cb, cs, cn⟩ ⟨i, a, y, d, q, p, f, ph, m, r, v, g⟩ = (⟨p', b', s', n'⟩, e)) (w : World) : Calls Try.prog 27 #[.agg #[.int .i64 cp, .int .i64 cb, .int .i64 cs, .int .i64 cn], .agg #[.int .i64 i, .int .i64 a, .int .i64 y, .int .i64 d, .int .i64 q, .int .i64 p, .int .i64 f, .int .i64 ph, .int .i64 m, .int .i64 r, .int .i64 v, .bool g], .bool false] w fun e' w' => e' = .returned (.tuple #[.agg #[.int .i64 p', .int .i64 b', .int .i64 s', .int .i64 n'], .int .i64 e]) ∧ Below w.heap.size w w' := by
  have key := rturn_come_any cp cb cs cn i a y d q p f ph m r v g hf ho w
  rw [h] at key
  exact key

theorem rcome_is (cp cb cs cn : Int) (i a y d q p f ph m r v : Int) (g : Bool) {p' b' s' n' e : Int} (hf : (⟨cp, cb, cs, cn⟩ : Ce).fine) (ho : (⟨i, a, y, d, q, p, f, ph, m, r, v, g⟩ : order.Or).fine) (h : come ⟨cp, cb, cs, cn⟩ ⟨i, a, y, d, q, p, f, ph, m, r, v, g⟩ = (⟨p', b', s', n'⟩, e)) (w : World) : Calls Try.prog 13 #[.agg #[.int .i64 cp, .int .i64 cb, .int .i64 cs, .int .i64 cn], .agg #[.int .i64 i, .int .i64 a, .int .i64 y, .int .i64 d, .int .i64 q, .int .i64 p, .int .i64 f, .int .i64 ph, .int .i64 m, .int .i64 r, .int .i64 v, .bool g]] w fun e' w' => e' = .returned (.tuple #[.agg #[.int .i64 p', .int .i64 b', .int .i64 s', .int .i64 n'], .int .i64 e]) ∧ Below w.heap.size w w' := by
  obtain ⟨W0, HW0⟩ : ∃ W, Hid ((((w.alloc (.cells #[.int .i64 cp, .int .i64 cb, .int .i64 cs, .int .i64 cn] 23)).alloc (.cells #[.int .i64 i, .int .i64 a, .int .i64 y, .int .i64 d, .int .i64 q, .int .i64 p, .int .i64 f, .int .i64 ph, .int .i64 m, .int .i64 r, .int .i64 v, .bool g] 25)).alloc (.cells #[.int .i64 0, .int .i64 0, .int .i64 0, .int .i64 0] 23)) = W) := ⟨_, Lib.hid rfl⟩
  have HBw0 : Hid (Below w.heap.size w W0) := Lib.hid (by rw [← HW0.out]; exact (((Below.refl _ _).alloc (by simp) _).alloc (by simp; try omega) _).alloc (by simp; try omega) _)
  have HX0_0 : Hid (∀ W, Below W0.heap.size W0 W → W.heap[w.heap.size]? = some (.cells #[.int .i64 cp, .int .i64 cb, .int .i64 cs, .int .i64 cn] 23 (0, 0))) := Lib.hid (fun W hb => (hb.block _ (by rw [← HW0.out]; simp; try omega)).trans (by rw [← HW0.out]; refine (Below.heap_alloc _ _ _ (by simp; try omega)).trans ?_; refine (Below.heap_alloc _ _ _ (by simp; try omega)).trans ?_; have := heap_alloc_new w (.cells #[.int .i64 cp, .int .i64 cb, .int .i64 cs, .int .i64 cn] 23); exact this))
  have HX1_0 : Hid (∀ W, Below W0.heap.size W0 W → W.heap[w.heap.size + 1]? = some (.cells #[.int .i64 i, .int .i64 a, .int .i64 y, .int .i64 d, .int .i64 q, .int .i64 p, .int .i64 f, .int .i64 ph, .int .i64 m, .int .i64 r, .int .i64 v, .bool g] 25 (0, 0))) := Lib.hid (fun W hb => (hb.block _ (by rw [← HW0.out]; simp; try omega)).trans (by rw [← HW0.out]; refine (Below.heap_alloc _ _ _ (by simp; try omega)).trans ?_; have := heap_alloc_new (w.alloc (.cells #[.int .i64 cp, .int .i64 cb, .int .i64 cs, .int .i64 cn] 23)) (.cells #[.int .i64 i, .int .i64 a, .int .i64 y, .int .i64 d, .int .i64 q, .int .i64 p, .int .i64 f, .int .i64 ph, .int .i64 m, .int .i64 r, .int .i64 v, .bool g] 25); simp only [World.size_alloc] at this; exact this))
  have HX2_0 : Hid (∀ W, Below W0.heap.size W0 W → W.heap[w.heap.size + 1 + 1]? = some (.cells #[.int .i64 0, .int .i64 0, .int .i64 0, .int .i64 0] 23 (0, 0))) := Lib.hid (fun W hb => (hb.block _ (by rw [← HW0.out]; simp; try omega)).trans (by rw [← HW0.out]; have := heap_alloc_new ((w.alloc (.cells #[.int .i64 cp, .int .i64 cb, .int .i64 cs, .int .i64 cn] 23)).alloc (.cells #[.int .i64 i, .int .i64 a, .int .i64 y, .int .i64 d, .int .i64 q, .int .i64 p, .int .i64 f, .int .i64 ph, .int .i64 m, .int .i64 r, .int .i64 v, .bool g] 25)) (.cells #[.int .i64 0, .int .i64 0, .int .i64 0, .int .i64 0] 23); simp only [World.size_alloc] at this; exact this))
  have HF := Lib.hid hf
  have HFO := Lib.hid ho
  have HH := Lib.hid h
  clear hf ho h
  go_enter Try.func13, Try.ntmps13
  go_upto_region 1 with fail
  rw [HW0.out]
  obtain ⟨k2_0, k2_1, k2_2, k2_3⟩ := cells4 (HX0_0.out W0 (Below.refl _ _))
  obtain ⟨k3_0, k3_1, k3_2, k3_3, k3_4, k3_5, k3_6, k3_7, k3_8, k3_9, k3_10, k3_11⟩ := order.cells12 (HX1_0.out W0 (Below.refl _ _))
  go_wp2_with fail
  refine Calls.mono (rturn_come_is cp cb cs cn i a y d q p f ph m r v g HF.out HFO.out HH.out _) ?_
  rintro e1 W1 ⟨rfl, hb⟩
  have HBw1 : Hid (Below w.heap.size w W1) := Lib.hid (HBw0.out.trans ((hb : Below W0.heap.size W0 W1).mono HBw0.out.size))
  have HB0_1 : Hid (Below W0.heap.size W0 W1) := Lib.hid (hb)
  clear hb
  clear k2_0 k2_1 k2_2 k2_3 k3_0 k3_1 k3_2 k3_3 k3_4 k3_5 k3_6 k3_7 k3_8 k3_9 k3_10 k3_11
  have hwh : World.whole W1 (w.heap.size + 1 + 1) 4 23 := whole_of (HX2_0.out W1 HB0_1.out) rfl
  go_wp2_with (refine wpList_store_whole 23 (.tmp 4) (.tmp 9) (w.heap.size + 1 + 1) 4 _ 23 (by rfl) (by rfl) hwh (by rfl) (by kernel_rfl) (by kernel_rfl) ?_)
  obtain ⟨v0, v1, v2, v3⟩ := cells4 (setAll_self (vs := #[.int .i64 p', .int .i64 b', .int .i64 s', .int .i64 n']) hwh rfl)
  exact bodyPost_ret (v := .tuple #[.agg #[.int .i64 p', .int .i64 b', .int .i64 s', .int .i64 n'], .int .i64 e]) (by simp [results, Try.results13, go_sem, v0, v1, v2, v3]) rfl ⟨rfl, setAll_below (HBw1.out) (by first | omega | (simp; done) | (simp; omega))⟩


end Go.Proofs.Ytkpapjdlpjjmbaa.cell
