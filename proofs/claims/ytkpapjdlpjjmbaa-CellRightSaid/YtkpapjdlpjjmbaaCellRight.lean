/-
  PROVED: the law CellRight answers true at every input, and leaves what it was given as it was.
  CONDITIONS: none.
-/
import Derived.Test.YtkpapjdlpjjmbaaRows
import Derived.WalkKit
import Derived.ProofKit
import Derived.OpenShut
import Derived.ShutString
import Derived.ChangeOld
import Derived.Below
import Derived.Test.YtkpapjdlpjjmbaaCellMath2
import Derived.Test.YtkpapjdlpjjmbaaCellRefD
import Derived.Test.YtkpapjdlpjjmbaaCellRefG
import Derived.Test.YtkpapjdlpjjmbaaCellRefT
import Derived.Deep.RegionHeld
import Derived.Deep.DrawnRows
import Derived.Deep.DeepCutAuto
import Derived.Test.YtkpapjdlpjjmbaaAwake08
import Derived.Test.YtkpapjdlpjjmbaaOrdEq
import Derived.Test.YtkpapjdlpjjmbaaCellEq
import Derived.Test.YtkpapjdlpjjmbaaRead
namespace Go.Proofs.Ytkpapjdlpjjmbaa.cellRight
open Go.ChangeShapes Go.WideShapes Go.ChangeAt Go.RowKit
open Go.ChangeMaps (open_string shut_string)
open Go.Proofs.Ytkpapjdlpjjmbaa Go.Proofs.Ytkpapjdlpjjmbaa.cell
open Go.Proofs.Ytkpapjdlpjjmbaa.order (eq_cases)
attribute [local go_sem] undef
attribute [local go_sem ↓] Go.wp_at_zero Go.wp_at_succ
set_option linter.unusedVariables false

theorem own : ownKnob Try.prog.godebug = none := by kernel_rfl
theorem laidOut : laidOutB Try.prog = true := by kernel_rfl

set_option maxHeartbeats 8000000 in
set_option maxRecDepth 100000 in
theorem walk (cs0 : Array Value) (x0 : CellD) (cs1 : Array Value) (x1 : OrderD) (a2 : Int) (a3 : Int) (cs4 : Array Value) (x4 : ExpoD) (cs5 : Array Value) (x5 : ExpoD) (w : World) (w0 : rdCell w (Lt w.heap.size) cs0.toList x0) (w1 : rdOrder w (Lt w.heap.size) cs1.toList x1) (w2 : (Lit.int .i64 a2).wf = true) (w3 : (Lit.int .i64 a3).wf = true) (w4 : rdExpo w (Lt w.heap.size) cs4.toList x4) (w5 : rdExpo w (Lt w.heap.size) cs5.toList x5) :
    Calls Try.prog 3 #[.agg cs0, .agg cs1, .int .i64 a2, .int .i64 a3, .agg cs4, .agg cs5] w fun e w' => e = .returned (.bool true) ∧ Below w.heap.size w w' := by
  -- WALK BEGINS
  obtain ⟨hc0, hf0⟩ := w0
  obtain rfl : cs0 = cell.cc x0 := by apply Array.toList_inj.1; exact hc0
  clear hc0
  obtain ⟨cp, cb, cs, cn⟩ := x0
  obtain ⟨hc1, hf1⟩ := w1
  obtain rfl : cs1 = order.oc x1 := by apply Array.toList_inj.1; exact hc1
  clear hc1
  obtain ⟨i, a, y, d, q, p, f, ph, m, r, v, g⟩ := x1
  obtain ⟨hc4, hf4⟩ := w4
  obtain rfl : cs4 = cell.xc x4 := by apply Array.toList_inj.1; exact hc4
  clear hc4
  obtain ⟨al, as_, an⟩ := x4
  obtain ⟨hc5, hf5⟩ := w5
  obtain rfl : cs5 = cell.xc x5 := by apply Array.toList_inj.1; exact hc5
  clear hc5
  obtain ⟨bl, bs, bn⟩ := x5
  show Calls Try.prog 3 #[.agg #[.int .i64 cp, .int .i64 cb, .int .i64 cs, .int .i64 cn], .agg #[.int .i64 i, .int .i64 a, .int .i64 y, .int .i64 d, .int .i64 q, .int .i64 p, .int .i64 f, .int .i64 ph, .int .i64 m, .int .i64 r, .int .i64 v, .bool g], .int .i64 a2, .int .i64 a3, .agg #[.int .i64 al, .int .i64 as_, .int .i64 an], .agg #[.int .i64 bl, .int .i64 bs, .int .i64 bn]] w _
  obtain ⟨W0, HW0⟩ : ∃ W, Hid (((((w.alloc (.cells #[.int .i64 cp, .int .i64 cb, .int .i64 cs, .int .i64 cn] 23)).alloc (.cells #[.int .i64 i, .int .i64 a, .int .i64 y, .int .i64 d, .int .i64 q, .int .i64 p, .int .i64 f, .int .i64 ph, .int .i64 m, .int .i64 r, .int .i64 v, .bool g] 25)).alloc (.cells #[.int .i64 al, .int .i64 as_, .int .i64 an] 27)).alloc (.cells #[.int .i64 bl, .int .i64 bs, .int .i64 bn] 27)) = W) := ⟨_, Lib.hid rfl⟩
  have HBw0 : Hid (Below w.heap.size w W0) := Lib.hid (by rw [← HW0.out]; exact ((((Below.refl _ _).alloc (by simp) _).alloc (by simp; try omega) _).alloc (by simp; try omega) _).alloc (by simp; try omega) _)
  have HX0_0 : Hid (∀ W, Below W0.heap.size W0 W → W.heap[w.heap.size]? = some (.cells #[.int .i64 cp, .int .i64 cb, .int .i64 cs, .int .i64 cn] 23 (0, 0))) := Lib.hid (fun W hb => (hb.block _ (by rw [← HW0.out]; simp; try omega)).trans (by rw [← HW0.out]; refine (Below.heap_alloc _ _ _ (by simp; try omega)).trans ?_; refine (Below.heap_alloc _ _ _ (by simp; try omega)).trans ?_; refine (Below.heap_alloc _ _ _ (by simp; try omega)).trans ?_; have := heap_alloc_new w (.cells #[.int .i64 cp, .int .i64 cb, .int .i64 cs, .int .i64 cn] 23); exact this))
  have HX1_0 : Hid (∀ W, Below W0.heap.size W0 W → W.heap[w.heap.size + 1]? = some (.cells #[.int .i64 i, .int .i64 a, .int .i64 y, .int .i64 d, .int .i64 q, .int .i64 p, .int .i64 f, .int .i64 ph, .int .i64 m, .int .i64 r, .int .i64 v, .bool g] 25 (0, 0))) := Lib.hid (fun W hb => (hb.block _ (by rw [← HW0.out]; simp; try omega)).trans (by rw [← HW0.out]; refine (Below.heap_alloc _ _ _ (by simp; try omega)).trans ?_; refine (Below.heap_alloc _ _ _ (by simp; try omega)).trans ?_; have := heap_alloc_new (w.alloc (.cells #[.int .i64 cp, .int .i64 cb, .int .i64 cs, .int .i64 cn] 23)) (.cells #[.int .i64 i, .int .i64 a, .int .i64 y, .int .i64 d, .int .i64 q, .int .i64 p, .int .i64 f, .int .i64 ph, .int .i64 m, .int .i64 r, .int .i64 v, .bool g] 25); simp only [World.size_alloc] at this; exact this))
  have HX2_0 : Hid (∀ W, Below W0.heap.size W0 W → W.heap[w.heap.size + 1 + 1]? = some (.cells #[.int .i64 al, .int .i64 as_, .int .i64 an] 27 (0, 0))) := Lib.hid (fun W hb => (hb.block _ (by rw [← HW0.out]; simp; try omega)).trans (by rw [← HW0.out]; refine (Below.heap_alloc _ _ _ (by simp; try omega)).trans ?_; have := heap_alloc_new ((w.alloc (.cells #[.int .i64 cp, .int .i64 cb, .int .i64 cs, .int .i64 cn] 23)).alloc (.cells #[.int .i64 i, .int .i64 a, .int .i64 y, .int .i64 d, .int .i64 q, .int .i64 p, .int .i64 f, .int .i64 ph, .int .i64 m, .int .i64 r, .int .i64 v, .bool g] 25)) (.cells #[.int .i64 al, .int .i64 as_, .int .i64 an] 27); simp only [World.size_alloc] at this; exact this))
  have HX3_0 : Hid (∀ W, Below W0.heap.size W0 W → W.heap[w.heap.size + 1 + 1 + 1]? = some (.cells #[.int .i64 bl, .int .i64 bs, .int .i64 bn] 27 (0, 0))) := Lib.hid (fun W hb => (hb.block _ (by rw [← HW0.out]; simp; try omega)).trans (by rw [← HW0.out]; have := heap_alloc_new (((w.alloc (.cells #[.int .i64 cp, .int .i64 cb, .int .i64 cs, .int .i64 cn] 23)).alloc (.cells #[.int .i64 i, .int .i64 a, .int .i64 y, .int .i64 d, .int .i64 q, .int .i64 p, .int .i64 f, .int .i64 ph, .int .i64 m, .int .i64 r, .int .i64 v, .bool g] 25)).alloc (.cells #[.int .i64 al, .int .i64 as_, .int .i64 an] 27)) (.cells #[.int .i64 bl, .int .i64 bs, .int .i64 bn] 27); simp only [World.size_alloc] at this; exact this))
  have HF := Lib.hid hf0
  have HFO := Lib.hid hf1
  have HS : Hid (frame.inR a2) := Lib.hid (inI_of_wf w2)
  have HQ : Hid (frame.inR a3) := Lib.hid (inI_of_wf w3)
  clear hf0 hf1 hf4 hf5 w2 w3
  go_enter Try.func3, Try.ntmps3
  go_upto_region 1 with fail
  rw [HW0.out]
  go_wp2_with fail
  refine Calls.mono (awake_any _) ?_
  rintro e1 W1 ⟨rfl, hb⟩
  have HBw1 : Hid (Below w.heap.size w W1) := Lib.hid (HBw0.out.trans ((hb : Below W0.heap.size W0 W1).mono HBw0.out.size))
  have HB0_1 : Hid (Below W0.heap.size W0 W1) := Lib.hid (hb)
  clear hb
  obtain ⟨cb1, HCb1⟩ : ∃ x, Hid (right ⟨cp, cb, cs, cn⟩ = x) := ⟨_, Lib.hid rfl⟩
  rcases cb1 with _ | _
  · obtain ⟨k6_0, k6_1, k6_2, k6_3⟩ := cells4 (HX0_0.out W1 HB0_1.out)
    go_wp2_with fail
    refine Calls.mono (rright_is cp cb cs cn HF.out HCb1.out _) ?_
    rintro e2 W2 ⟨rfl, hb⟩
    have HBw2 : Hid (Below w.heap.size w W2) := Lib.hid (HBw1.out.trans ((hb : Below W1.heap.size W1 W2).mono HBw1.out.size))
    have HB0_2 : Hid (Below W0.heap.size W0 W2) := Lib.hid (HB0_1.out.trans ((hb : Below W1.heap.size W1 W2).mono HB0_1.out.size))
    have HB1_2 : Hid (Below W1.heap.size W1 W2) := Lib.hid (hb)
    clear hb
    have HO : Hid (of_ ⟨cp, cb, cs, cn⟩ = (⟨0, 0, 0⟩, 1)) := Lib.hid (by unfold of_; rw [HCb1.out]; simp)
    clear k6_0 k6_1 k6_2 k6_3
    obtain ⟨k6_0, k6_1, k6_2, k6_3⟩ := cells4 (HX0_0.out W2 HB0_2.out)
    go_wp2_with fail
    refine Calls.mono (of_is cp cb cs cn HF.out HO.out _) ?_
    rintro e3 W3 ⟨rfl, hb⟩
    have HBw3 : Hid (Below w.heap.size w W3) := Lib.hid (HBw2.out.trans ((hb : Below W2.heap.size W2 W3).mono HBw2.out.size))
    have HB0_3 : Hid (Below W0.heap.size W0 W3) := Lib.hid (HB0_2.out.trans ((hb : Below W2.heap.size W2 W3).mono HB0_2.out.size))
    have HB1_3 : Hid (Below W1.heap.size W1 W3) := Lib.hid (HB1_2.out.trans ((hb : Below W2.heap.size W2 W3).mono HB1_2.out.size))
    have HB2_3 : Hid (Below W2.heap.size W2 W3) := Lib.hid (hb)
    clear hb
    clear k6_0 k6_1 k6_2 k6_3
    go_upto_region 5 with fail
    obtain ⟨W4, HW4⟩ : ∃ W, Hid ((W3.alloc (.cells #[.int .i64 0, .int .i64 0, .int .i64 0] 27)) = W) := ⟨_, Lib.hid rfl⟩
    have NE_4_14_6 : Hid (w.heap.size ≠ W3.heap.size) := Lib.hid (Nat.ne_of_lt (Array.getElem?_eq_some_iff.1 (HX0_0.out W3 HB0_3.out)).1)
    have NE_4_14_7 : Hid (w.heap.size + 1 ≠ W3.heap.size) := Lib.hid (Nat.ne_of_lt (Array.getElem?_eq_some_iff.1 (HX1_0.out W3 HB0_3.out)).1)
    have NE_4_14_10 : Hid (w.heap.size + 1 + 1 ≠ W3.heap.size) := Lib.hid (Nat.ne_of_lt (Array.getElem?_eq_some_iff.1 (HX2_0.out W3 HB0_3.out)).1)
    have NE_4_14_11 : Hid (w.heap.size + 1 + 1 + 1 ≠ W3.heap.size) := Lib.hid (Nat.ne_of_lt (Array.getElem?_eq_some_iff.1 (HX3_0.out W3 HB0_3.out)).1)
    have LE_4 : Hid (w.heap.size ≤ W3.heap.size) := Lib.hid HBw3.out.size
    have HBw4 : Hid (Below w.heap.size w W4) := Lib.hid (HBw3.out.trans ((by rw [← HW4.out]; exact (Below.refl _ _).alloc (Nat.le_refl _) _ : Below W3.heap.size W3 W4).mono HBw3.out.size))
    have HB0_4 : Hid (Below W0.heap.size W0 W4) := Lib.hid (HB0_3.out.trans ((by rw [← HW4.out]; exact (Below.refl _ _).alloc (Nat.le_refl _) _ : Below W3.heap.size W3 W4).mono HB0_3.out.size))
    have HB1_4 : Hid (Below W1.heap.size W1 W4) := Lib.hid (HB1_3.out.trans ((by rw [← HW4.out]; exact (Below.refl _ _).alloc (Nat.le_refl _) _ : Below W3.heap.size W3 W4).mono HB1_3.out.size))
    have HB2_4 : Hid (Below W2.heap.size W2 W4) := Lib.hid (HB2_3.out.trans ((by rw [← HW4.out]; exact (Below.refl _ _).alloc (Nat.le_refl _) _ : Below W3.heap.size W3 W4).mono HB2_3.out.size))
    have HB3_4 : Hid (Below W3.heap.size W3 W4) := Lib.hid (by rw [← HW4.out]; exact (Below.refl _ _).alloc (Nat.le_refl _) _)
    have HX14_4 : Hid (∀ W, Below W4.heap.size W4 W → W.heap[W3.heap.size]? = some (.cells #[.int .i64 0, .int .i64 0, .int .i64 0] 27 (0, 0))) := Lib.hid (fun W hb => (hb.block _ (by rw [← HW4.out]; simp)).trans (by rw [← HW4.out]; exact heap_alloc_new _ _))
    rw [HW4.out]
    have heq2 : ∀ W, (Op.equalIn 10000 27 (.agg #[.int .i64 0, .int .i64 0, .int .i64 0]) (.agg #[.int .i64 0, .int .i64 0, .int .i64 0])).run Try.prog W = .ok true W := fun W => eq3_of rfl rfl (by simp [Ex.fine, frame.inR]) (by simp [Ex.fine, frame.inR]) (decide_eq_true rfl) W
    go_upto_region 5 with fail
    refine wp_region_held_drew (S := fun W => Below W4.heap.size W4 W) (by kernel_rfl) (Below.refl _ _).drew (fun _ => ?_)
    obtain ⟨W5, hW5⟩ : ∃ x, x = W4.drew := ⟨_, rfl⟩
    rw [← hW5]
    have HBw5 : Hid (Below w.heap.size w W5) := Lib.hid (HBw4.out.trans ((by rw [hW5]; exact (Below.refl _ _).drew : Below W4.heap.size W4 W5).mono HBw4.out.size))
    have HB0_5 : Hid (Below W0.heap.size W0 W5) := Lib.hid (HB0_4.out.trans ((by rw [hW5]; exact (Below.refl _ _).drew : Below W4.heap.size W4 W5).mono HB0_4.out.size))
    have HB1_5 : Hid (Below W1.heap.size W1 W5) := Lib.hid (HB1_4.out.trans ((by rw [hW5]; exact (Below.refl _ _).drew : Below W4.heap.size W4 W5).mono HB1_4.out.size))
    have HB2_5 : Hid (Below W2.heap.size W2 W5) := Lib.hid (HB2_4.out.trans ((by rw [hW5]; exact (Below.refl _ _).drew : Below W4.heap.size W4 W5).mono HB2_4.out.size))
    have HB3_5 : Hid (Below W3.heap.size W3 W5) := Lib.hid (HB3_4.out.trans ((by rw [hW5]; exact (Below.refl _ _).drew : Below W4.heap.size W4 W5).mono HB3_4.out.size))
    have HB4_5 : Hid (Below W4.heap.size W4 W5) := Lib.hid (by rw [hW5]; exact (Below.refl _ _).drew)
    clear hW5
    refine wpAnyH_take (i := 0) (v := .agg #[.int .i64 cp, .int .i64 cb, .int .i64 cs, .int .i64 cn]) rfl (by kernel_rfl) (by kernel_rfl) (by kernel_rfl) (fun _ _ _ h => h) (Or.inl ⟨by kernel_rfl, ?h0⟩) HB4_5.out ?_
    case h0 => (intro WX hWX; obtain ⟨y0, y1, y2, y3⟩ := cells4 (HX0_0.out WX (HB0_4.out.trans ((show Below W4.heap.size W4 WX from hWX).mono HB0_4.out.size))); go_simp)
    go_simp
    refine wpAnyH_take (i := 2) (v := .bool false) rfl (by kernel_rfl) (by kernel_rfl) (by kernel_rfl) (fun _ _ _ h => h) (Or.inl ⟨by kernel_rfl, ?h2⟩) HB4_5.out ?_
    case h2 => (intro WX hWX; go_simp)
    go_simp
    refine wpAnyH_ready (rs := [1]) (by kernel_rfl) (by simp) ?_
    refine AllReadyH.cons rfl (fun K hK => ?_) AllReadyH.nil
    go_simp
    go_wp2_with (refine Calls.mono (right_is cp cb cs cn HF.out HCb1.out _) ?_; rintro e6 W6 ⟨rfl, hb⟩)
    have HBw6 : Hid (Below w.heap.size w W6) := Lib.hid (HBw5.out.trans ((hb : Below W5.heap.size W5 W6).mono HBw5.out.size))
    have HB0_6 : Hid (Below W0.heap.size W0 W6) := Lib.hid (HB0_5.out.trans ((hb : Below W5.heap.size W5 W6).mono HB0_5.out.size))
    have HB1_6 : Hid (Below W1.heap.size W1 W6) := Lib.hid (HB1_5.out.trans ((hb : Below W5.heap.size W5 W6).mono HB1_5.out.size))
    have HB2_6 : Hid (Below W2.heap.size W2 W6) := Lib.hid (HB2_5.out.trans ((hb : Below W5.heap.size W5 W6).mono HB2_5.out.size))
    have HB3_6 : Hid (Below W3.heap.size W3 W6) := Lib.hid (HB3_5.out.trans ((hb : Below W5.heap.size W5 W6).mono HB3_5.out.size))
    have HB4_6 : Hid (Below W4.heap.size W4 W6) := Lib.hid (HB4_5.out.trans ((hb : Below W5.heap.size W5 W6).mono HB4_5.out.size))
    have HB5_6 : Hid (Below W5.heap.size W5 W6) := Lib.hid (hb)
    clear hb
    refine hK.out _ _ HB4_6.out (fun _ => ?_)
    clear hK K
    go_simp
    refine wpAnyH_take (i := 3) (v := .bool false) rfl (by kernel_rfl) (by kernel_rfl) (by kernel_rfl) (fun _ _ _ h => h) (Or.inl ⟨by kernel_rfl, ?h3⟩) HB4_6.out ?_
    case h3 => (intro WX hWX; go_simp)
    go_simp
    refine wpAnyH_take (i := 4) (v := .bool false) rfl (by kernel_rfl) (by kernel_rfl) (by kernel_rfl) (fun _ _ _ h => h) (Or.inl ⟨by kernel_rfl, ?h4⟩) HB4_6.out ?_
    case h4 => (intro WX hWX; go_simp)
    go_simp
    refine wpAnyH_take (i := 5) (v := .bool false) rfl (by kernel_rfl) (by kernel_rfl) (by kernel_rfl) (fun _ _ _ h => h) (Or.inl ⟨by kernel_rfl, ?h5⟩) HB4_6.out ?_
    case h5 => (intro WX hWX; go_simp)
    go_simp
    refine wpAnyH_take (i := 6) (v := .bool false) rfl (by kernel_rfl) (by kernel_rfl) (by kernel_rfl) (fun _ _ _ h => h) (Or.inl ⟨by kernel_rfl, ?h6⟩) HB4_6.out ?_
    case h6 => (intro WX hWX; go_simp)
    go_simp
    refine wpAnyH_take (i := 7) (v := undef) rfl (by kernel_rfl) (by kernel_rfl) (by kernel_rfl) (fun _ _ _ h => h) (Or.inr ⟨by kernel_rfl, rfl⟩) HB4_6.out ?_
    go_simp
    refine wpAnyH_take (i := 8) (v := undef) rfl (by kernel_rfl) (by kernel_rfl) (by kernel_rfl) (fun _ _ _ h => h) (Or.inr ⟨by kernel_rfl, rfl⟩) HB4_6.out ?_
    go_simp
    refine wpAnyH_take (i := 9) (v := undef) rfl (by kernel_rfl) (by kernel_rfl) (by kernel_rfl) (fun _ _ _ h => h) (Or.inr ⟨by kernel_rfl, rfl⟩) HB4_6.out ?_
    go_simp
    refine wpAnyH_take (i := 10) (v := undef) rfl (by kernel_rfl) (by kernel_rfl) (by kernel_rfl) (fun _ _ _ h => h) (Or.inr ⟨by kernel_rfl, rfl⟩) HB4_6.out ?_
    go_simp
    refine wpAnyH_take (i := 11) (v := undef) rfl (by kernel_rfl) (by kernel_rfl) (by kernel_rfl) (fun _ _ _ h => h) (Or.inr ⟨by kernel_rfl, rfl⟩) HB4_6.out ?_
    go_simp
    refine wpAnyH_take (i := 12) (v := undef) rfl (by kernel_rfl) (by kernel_rfl) (by kernel_rfl) (fun _ _ _ h => h) (Or.inr ⟨by kernel_rfl, rfl⟩) HB4_6.out ?_
    go_simp
    refine wpAnyH_take (i := 13) (v := undef) rfl (by kernel_rfl) (by kernel_rfl) (by kernel_rfl) (fun _ _ _ h => h) (Or.inr ⟨by kernel_rfl, rfl⟩) HB4_6.out ?_
    go_simp
    refine wpAnyH_take (i := 14) (v := undef) rfl (by kernel_rfl) (by kernel_rfl) (by kernel_rfl) (fun _ _ _ h => h) (Or.inr ⟨by kernel_rfl, rfl⟩) HB4_6.out ?_
    go_simp
    refine wpAnyH_take (i := 15) (v := .bool false) rfl (by kernel_rfl) (by kernel_rfl) (by kernel_rfl) (fun _ _ _ h => h) (Or.inl ⟨by kernel_rfl, ?h15⟩) HB4_6.out ?_
    case h15 => (intro WX hWX; go_simp)
    go_simp
    refine wpAnyH_take (i := 16) (v := .bool false) rfl (by kernel_rfl) (by kernel_rfl) (by kernel_rfl) (fun _ _ _ h => h) (Or.inl ⟨by kernel_rfl, ?h16⟩) HB4_6.out ?_
    case h16 => (intro WX hWX; go_simp)
    go_simp
    refine wpAnyH_take (i := 17) (v := .bool false) rfl (by kernel_rfl) (by kernel_rfl) (by kernel_rfl) (fun _ _ _ h => h) (Or.inl ⟨by kernel_rfl, ?h17⟩) HB4_6.out ?_
    case h17 => (intro WX hWX; go_simp)
    go_simp
    refine wpAnyH_take (i := 18) (v := .bool false) rfl (by kernel_rfl) (by kernel_rfl) (by kernel_rfl) (fun _ _ _ h => h) (Or.inl ⟨by kernel_rfl, ?h18⟩) HB4_6.out ?_
    case h18 => (intro WX hWX; go_simp)
    go_simp
    refine wpAnyH_take (i := 19) (v := .bool true) rfl (by kernel_rfl) (by kernel_rfl) (by kernel_rfl) (fun _ _ _ h => h) (Or.inl ⟨by kernel_rfl, ?h19⟩) HB4_6.out ?_
    case h19 => (intro WX hWX; go_simp)
    go_simp
    refine wpAnyH_take (i := 20) (v := .bool true) rfl (by kernel_rfl) (by kernel_rfl) (by kernel_rfl) (fun _ _ _ h => h) (Or.inl ⟨by kernel_rfl, ?h20⟩) HB4_6.out ?_
    case h20 => (intro WX hWX; go_simp)
    go_simp
    refine wpAnyH_take (i := 21) (v := .int .i64 1) rfl (by kernel_rfl) (by kernel_rfl) (by kernel_rfl) (fun _ _ _ h => h) (Or.inl ⟨by kernel_rfl, ?h21⟩) HB4_6.out ?_
    case h21 => (intro WX hWX; go_simp)
    go_simp
    refine wpAnyH_take (i := 22) (v := .bool false) rfl (by kernel_rfl) (by kernel_rfl) (by kernel_rfl) (fun _ _ _ h => h) (Or.inl ⟨by kernel_rfl, ?h22⟩) HB4_6.out ?_
    case h22 => (intro WX hWX; go_simp)
    go_simp
    refine wpAnyH_take (i := 23) (v := .bool false) rfl (by kernel_rfl) (by kernel_rfl) (by kernel_rfl) (fun _ _ _ h => h) (Or.inl ⟨by kernel_rfl, ?h23⟩) HB4_6.out ?_
    case h23 => (intro WX hWX; go_simp)
    go_simp
    refine wpAnyH_take (i := 24) (v := .agg #[.int .i64 0, .int .i64 0, .int .i64 0]) rfl (by kernel_rfl) (by kernel_rfl) (by kernel_rfl) (fun _ _ _ h => h) (Or.inl ⟨by kernel_rfl, ?h24⟩) HB4_6.out ?_
    case h24 => (intro WX hWX; obtain ⟨y0, y1, y2⟩ := cells3 (HX14_4.out WX (show Below W4.heap.size W4 WX from hWX)); go_simp)
    go_simp
    refine wpAnyH_take (i := 25) (v := .agg #[.int .i64 0, .int .i64 0, .int .i64 0]) rfl (by kernel_rfl) (by kernel_rfl) (by kernel_rfl) (fun _ _ _ h => h) (Or.inl ⟨by kernel_rfl, ?h25⟩) HB4_6.out ?_
    case h25 => (intro WX hWX; go_simp)
    go_simp
    refine wpAnyH_take (i := 26) (v := .bool false) rfl (by kernel_rfl) (by kernel_rfl) (by kernel_rfl) (fun _ _ _ h => h) (Or.inl ⟨by kernel_rfl, ?h26⟩) HB4_6.out ?_
    case h26 => (intro WX hWX; go_simp)
    go_simp
    refine wpAnyH_take (i := 27) (v := .bool false) rfl (by kernel_rfl) (by kernel_rfl) (by kernel_rfl) (fun _ _ _ h => h) (Or.inl ⟨by kernel_rfl, ?h27⟩) HB4_6.out ?_
    case h27 => (intro WX hWX; go_simp)
    go_simp
    refine wpAnyH_take (i := 28) (v := .bool false) rfl (by kernel_rfl) (by kernel_rfl) (by kernel_rfl) (fun _ _ _ h => h) (Or.inl ⟨by kernel_rfl, ?h28⟩) HB4_6.out ?_
    case h28 => (intro WX hWX; go_simp)
    go_simp
    refine wpAnyH_take (i := 29) (v := .bool false) rfl (by kernel_rfl) (by kernel_rfl) (by kernel_rfl) (fun _ _ _ h => h) (Or.inl ⟨by kernel_rfl, ?h29⟩) HB4_6.out ?_
    case h29 => (intro WX hWX; go_simp)
    go_simp
    refine wpAnyH_done (by kernel_rfl) ?_ _
    obtain ⟨⟨⟨dp1, db1, ds1, dn1⟩, e1⟩, hh⟩ : ∃ x, come ⟨cp, cb, cs, cn⟩ ⟨i, a, y, d, q, p, f, ph, m, r, v, g⟩ = x := ⟨_, rfl⟩
    have HD1 := Lib.hid hh
    have HF1 : Hid ((⟨dp1, db1, ds1, dn1⟩ : Ce).fine) := Lib.hid (come_fine HF.out hh)
    clear hh
    obtain ⟨k6_0, k6_1, k6_2, k6_3⟩ := cells4 (HX0_0.out W6 HB0_6.out)
    obtain ⟨k7_0, k7_1, k7_2, k7_3, k7_4, k7_5, k7_6, k7_7, k7_8, k7_9, k7_10, k7_11⟩ := order.cells12 (HX1_0.out W6 HB0_6.out)
    go_wp2_with fail
    refine Calls.mono (come_is cp cb cs cn i a y d q p f ph m r v g HF.out HFO.out HD1.out _) ?_
    rintro e7 W7 ⟨rfl, hb⟩
    have HBw7 : Hid (Below w.heap.size w W7) := Lib.hid (HBw6.out.trans ((hb : Below W6.heap.size W6 W7).mono HBw6.out.size))
    have HB0_7 : Hid (Below W0.heap.size W0 W7) := Lib.hid (HB0_6.out.trans ((hb : Below W6.heap.size W6 W7).mono HB0_6.out.size))
    have HB1_7 : Hid (Below W1.heap.size W1 W7) := Lib.hid (HB1_6.out.trans ((hb : Below W6.heap.size W6 W7).mono HB1_6.out.size))
    have HB2_7 : Hid (Below W2.heap.size W2 W7) := Lib.hid (HB2_6.out.trans ((hb : Below W6.heap.size W6 W7).mono HB2_6.out.size))
    have HB3_7 : Hid (Below W3.heap.size W3 W7) := Lib.hid (HB3_6.out.trans ((hb : Below W6.heap.size W6 W7).mono HB3_6.out.size))
    have HB4_7 : Hid (Below W4.heap.size W4 W7) := Lib.hid (HB4_6.out.trans ((hb : Below W6.heap.size W6 W7).mono HB4_6.out.size))
    have HB5_7 : Hid (Below W5.heap.size W5 W7) := Lib.hid (HB5_6.out.trans ((hb : Below W6.heap.size W6 W7).mono HB5_6.out.size))
    have HB6_7 : Hid (Below W6.heap.size W6 W7) := Lib.hid (hb)
    clear hb
    clear k6_0 k6_1 k6_2 k6_3 k7_0 k7_1 k7_2 k7_3 k7_4 k7_5 k7_6 k7_7 k7_8 k7_9 k7_10 k7_11
    go_upto_region 8 with fail
    obtain ⟨W8, HW8⟩ : ∃ W, Hid ((W7.alloc (.cells #[.int .i64 dp1, .int .i64 db1, .int .i64 ds1, .int .i64 dn1] 23)) = W) := ⟨_, Lib.hid rfl⟩
    have NE_8_16_6 : Hid (w.heap.size ≠ W7.heap.size) := Lib.hid (Nat.ne_of_lt (Array.getElem?_eq_some_iff.1 (HX0_0.out W7 HB0_7.out)).1)
    have NE_8_16_7 : Hid (w.heap.size + 1 ≠ W7.heap.size) := Lib.hid (Nat.ne_of_lt (Array.getElem?_eq_some_iff.1 (HX1_0.out W7 HB0_7.out)).1)
    have NE_8_16_10 : Hid (w.heap.size + 1 + 1 ≠ W7.heap.size) := Lib.hid (Nat.ne_of_lt (Array.getElem?_eq_some_iff.1 (HX2_0.out W7 HB0_7.out)).1)
    have NE_8_16_11 : Hid (w.heap.size + 1 + 1 + 1 ≠ W7.heap.size) := Lib.hid (Nat.ne_of_lt (Array.getElem?_eq_some_iff.1 (HX3_0.out W7 HB0_7.out)).1)
    have NE_8_16_14 : Hid (W3.heap.size ≠ W7.heap.size) := Lib.hid (Nat.ne_of_lt (Array.getElem?_eq_some_iff.1 (HX14_4.out W7 HB4_7.out)).1)
    have LE_8 : Hid (w.heap.size ≤ W7.heap.size) := Lib.hid HBw7.out.size
    have HBw8 : Hid (Below w.heap.size w W8) := Lib.hid (HBw7.out.trans ((by rw [← HW8.out]; exact (Below.refl _ _).alloc (Nat.le_refl _) _ : Below W7.heap.size W7 W8).mono HBw7.out.size))
    have HB0_8 : Hid (Below W0.heap.size W0 W8) := Lib.hid (HB0_7.out.trans ((by rw [← HW8.out]; exact (Below.refl _ _).alloc (Nat.le_refl _) _ : Below W7.heap.size W7 W8).mono HB0_7.out.size))
    have HB1_8 : Hid (Below W1.heap.size W1 W8) := Lib.hid (HB1_7.out.trans ((by rw [← HW8.out]; exact (Below.refl _ _).alloc (Nat.le_refl _) _ : Below W7.heap.size W7 W8).mono HB1_7.out.size))
    have HB2_8 : Hid (Below W2.heap.size W2 W8) := Lib.hid (HB2_7.out.trans ((by rw [← HW8.out]; exact (Below.refl _ _).alloc (Nat.le_refl _) _ : Below W7.heap.size W7 W8).mono HB2_7.out.size))
    have HB3_8 : Hid (Below W3.heap.size W3 W8) := Lib.hid (HB3_7.out.trans ((by rw [← HW8.out]; exact (Below.refl _ _).alloc (Nat.le_refl _) _ : Below W7.heap.size W7 W8).mono HB3_7.out.size))
    have HB4_8 : Hid (Below W4.heap.size W4 W8) := Lib.hid (HB4_7.out.trans ((by rw [← HW8.out]; exact (Below.refl _ _).alloc (Nat.le_refl _) _ : Below W7.heap.size W7 W8).mono HB4_7.out.size))
    have HB5_8 : Hid (Below W5.heap.size W5 W8) := Lib.hid (HB5_7.out.trans ((by rw [← HW8.out]; exact (Below.refl _ _).alloc (Nat.le_refl _) _ : Below W7.heap.size W7 W8).mono HB5_7.out.size))
    have HB6_8 : Hid (Below W6.heap.size W6 W8) := Lib.hid (HB6_7.out.trans ((by rw [← HW8.out]; exact (Below.refl _ _).alloc (Nat.le_refl _) _ : Below W7.heap.size W7 W8).mono HB6_7.out.size))
    have HB7_8 : Hid (Below W7.heap.size W7 W8) := Lib.hid (by rw [← HW8.out]; exact (Below.refl _ _).alloc (Nat.le_refl _) _)
    have HX16_8 : Hid (∀ W, Below W8.heap.size W8 W → W.heap[W7.heap.size]? = some (.cells #[.int .i64 dp1, .int .i64 db1, .int .i64 ds1, .int .i64 dn1] 23 (0, 0))) := Lib.hid (fun W hb => (hb.block _ (by rw [← HW8.out]; simp)).trans (by rw [← HW8.out]; exact heap_alloc_new _ _))
    rw [HW8.out]
    obtain ⟨k6_0, k6_1, k6_2, k6_3⟩ := cells4 (HX0_0.out W8 HB0_8.out)
    obtain ⟨k7_0, k7_1, k7_2, k7_3, k7_4, k7_5, k7_6, k7_7, k7_8, k7_9, k7_10, k7_11⟩ := order.cells12 (HX1_0.out W8 HB0_8.out)
    go_wp2_with fail
    refine Calls.mono (rcome_is cp cb cs cn i a y d q p f ph m r v g HF.out HFO.out HD1.out _) ?_
    rintro e9 W9 ⟨rfl, hb⟩
    have HBw9 : Hid (Below w.heap.size w W9) := Lib.hid (HBw8.out.trans ((hb : Below W8.heap.size W8 W9).mono HBw8.out.size))
    have HB0_9 : Hid (Below W0.heap.size W0 W9) := Lib.hid (HB0_8.out.trans ((hb : Below W8.heap.size W8 W9).mono HB0_8.out.size))
    have HB1_9 : Hid (Below W1.heap.size W1 W9) := Lib.hid (HB1_8.out.trans ((hb : Below W8.heap.size W8 W9).mono HB1_8.out.size))
    have HB2_9 : Hid (Below W2.heap.size W2 W9) := Lib.hid (HB2_8.out.trans ((hb : Below W8.heap.size W8 W9).mono HB2_8.out.size))
    have HB3_9 : Hid (Below W3.heap.size W3 W9) := Lib.hid (HB3_8.out.trans ((hb : Below W8.heap.size W8 W9).mono HB3_8.out.size))
    have HB4_9 : Hid (Below W4.heap.size W4 W9) := Lib.hid (HB4_8.out.trans ((hb : Below W8.heap.size W8 W9).mono HB4_8.out.size))
    have HB5_9 : Hid (Below W5.heap.size W5 W9) := Lib.hid (HB5_8.out.trans ((hb : Below W8.heap.size W8 W9).mono HB5_8.out.size))
    have HB6_9 : Hid (Below W6.heap.size W6 W9) := Lib.hid (HB6_8.out.trans ((hb : Below W8.heap.size W8 W9).mono HB6_8.out.size))
    have HB7_9 : Hid (Below W7.heap.size W7 W9) := Lib.hid (HB7_8.out.trans ((hb : Below W8.heap.size W8 W9).mono HB7_8.out.size))
    have HB8_9 : Hid (Below W8.heap.size W8 W9) := Lib.hid (hb)
    clear hb
    clear k6_0 k6_1 k6_2 k6_3 k7_0 k7_1 k7_2 k7_3 k7_4 k7_5 k7_6 k7_7 k7_8 k7_9 k7_10 k7_11
    go_upto_region 9 with fail
    obtain ⟨W10, HW10⟩ : ∃ W, Hid ((W9.alloc (.cells #[.int .i64 dp1, .int .i64 db1, .int .i64 ds1, .int .i64 dn1] 23)) = W) := ⟨_, Lib.hid rfl⟩
    have NE_10_18_6 : Hid (w.heap.size ≠ W9.heap.size) := Lib.hid (Nat.ne_of_lt (Array.getElem?_eq_some_iff.1 (HX0_0.out W9 HB0_9.out)).1)
    have NE_10_18_7 : Hid (w.heap.size + 1 ≠ W9.heap.size) := Lib.hid (Nat.ne_of_lt (Array.getElem?_eq_some_iff.1 (HX1_0.out W9 HB0_9.out)).1)
    have NE_10_18_10 : Hid (w.heap.size + 1 + 1 ≠ W9.heap.size) := Lib.hid (Nat.ne_of_lt (Array.getElem?_eq_some_iff.1 (HX2_0.out W9 HB0_9.out)).1)
    have NE_10_18_11 : Hid (w.heap.size + 1 + 1 + 1 ≠ W9.heap.size) := Lib.hid (Nat.ne_of_lt (Array.getElem?_eq_some_iff.1 (HX3_0.out W9 HB0_9.out)).1)
    have NE_10_18_14 : Hid (W3.heap.size ≠ W9.heap.size) := Lib.hid (Nat.ne_of_lt (Array.getElem?_eq_some_iff.1 (HX14_4.out W9 HB4_9.out)).1)
    have NE_10_18_16 : Hid (W7.heap.size ≠ W9.heap.size) := Lib.hid (Nat.ne_of_lt (Array.getElem?_eq_some_iff.1 (HX16_8.out W9 HB8_9.out)).1)
    have LE_10 : Hid (w.heap.size ≤ W9.heap.size) := Lib.hid HBw9.out.size
    have HBw10 : Hid (Below w.heap.size w W10) := Lib.hid (HBw9.out.trans ((by rw [← HW10.out]; exact (Below.refl _ _).alloc (Nat.le_refl _) _ : Below W9.heap.size W9 W10).mono HBw9.out.size))
    have HB0_10 : Hid (Below W0.heap.size W0 W10) := Lib.hid (HB0_9.out.trans ((by rw [← HW10.out]; exact (Below.refl _ _).alloc (Nat.le_refl _) _ : Below W9.heap.size W9 W10).mono HB0_9.out.size))
    have HB1_10 : Hid (Below W1.heap.size W1 W10) := Lib.hid (HB1_9.out.trans ((by rw [← HW10.out]; exact (Below.refl _ _).alloc (Nat.le_refl _) _ : Below W9.heap.size W9 W10).mono HB1_9.out.size))
    have HB2_10 : Hid (Below W2.heap.size W2 W10) := Lib.hid (HB2_9.out.trans ((by rw [← HW10.out]; exact (Below.refl _ _).alloc (Nat.le_refl _) _ : Below W9.heap.size W9 W10).mono HB2_9.out.size))
    have HB3_10 : Hid (Below W3.heap.size W3 W10) := Lib.hid (HB3_9.out.trans ((by rw [← HW10.out]; exact (Below.refl _ _).alloc (Nat.le_refl _) _ : Below W9.heap.size W9 W10).mono HB3_9.out.size))
    have HB4_10 : Hid (Below W4.heap.size W4 W10) := Lib.hid (HB4_9.out.trans ((by rw [← HW10.out]; exact (Below.refl _ _).alloc (Nat.le_refl _) _ : Below W9.heap.size W9 W10).mono HB4_9.out.size))
    have HB5_10 : Hid (Below W5.heap.size W5 W10) := Lib.hid (HB5_9.out.trans ((by rw [← HW10.out]; exact (Below.refl _ _).alloc (Nat.le_refl _) _ : Below W9.heap.size W9 W10).mono HB5_9.out.size))
    have HB6_10 : Hid (Below W6.heap.size W6 W10) := Lib.hid (HB6_9.out.trans ((by rw [← HW10.out]; exact (Below.refl _ _).alloc (Nat.le_refl _) _ : Below W9.heap.size W9 W10).mono HB6_9.out.size))
    have HB7_10 : Hid (Below W7.heap.size W7 W10) := Lib.hid (HB7_9.out.trans ((by rw [← HW10.out]; exact (Below.refl _ _).alloc (Nat.le_refl _) _ : Below W9.heap.size W9 W10).mono HB7_9.out.size))
    have HB8_10 : Hid (Below W8.heap.size W8 W10) := Lib.hid (HB8_9.out.trans ((by rw [← HW10.out]; exact (Below.refl _ _).alloc (Nat.le_refl _) _ : Below W9.heap.size W9 W10).mono HB8_9.out.size))
    have HB9_10 : Hid (Below W9.heap.size W9 W10) := Lib.hid (by rw [← HW10.out]; exact (Below.refl _ _).alloc (Nat.le_refl _) _)
    have HX18_10 : Hid (∀ W, Below W10.heap.size W10 W → W.heap[W9.heap.size]? = some (.cells #[.int .i64 dp1, .int .i64 db1, .int .i64 ds1, .int .i64 dn1] 23 (0, 0))) := Lib.hid (fun W hb => (hb.block _ (by rw [← HW10.out]; simp)).trans (by rw [← HW10.out]; exact heap_alloc_new _ _))
    rw [HW10.out]
    have heq3 : ∀ W, (Op.equalIn 10000 23 (.agg #[.int .i64 dp1, .int .i64 db1, .int .i64 ds1, .int .i64 dn1]) (.agg #[.int .i64 dp1, .int .i64 db1, .int .i64 ds1, .int .i64 dn1])).run Try.prog W = .ok true W := fun W => eq4_of rfl rfl HF1.out HF1.out (decide_eq_true rfl) W
    obtain ⟨⟨⟨dp2, db2, ds2, dn2⟩, e2⟩, hh⟩ : ∃ x, go ⟨cp, cb, cs, cn⟩ ⟨i, a, y, d, q, p, f, ph, m, r, v, g⟩ = x := ⟨_, rfl⟩
    have HD2 := Lib.hid hh
    have HF2 : Hid ((⟨dp2, db2, ds2, dn2⟩ : Ce).fine) := Lib.hid (go_fine HF.out hh)
    clear hh
    obtain ⟨k16_0, k16_1, k16_2, k16_3⟩ := cells4 (HX16_8.out W10 HB8_10.out)
    obtain ⟨k18_0, k18_1, k18_2, k18_3⟩ := cells4 (HX18_10.out W10 (Below.refl _ _))
    obtain ⟨k6_0, k6_1, k6_2, k6_3⟩ := cells4 (HX0_0.out W10 HB0_10.out)
    obtain ⟨k7_0, k7_1, k7_2, k7_3, k7_4, k7_5, k7_6, k7_7, k7_8, k7_9, k7_10, k7_11⟩ := order.cells12 (HX1_0.out W10 HB0_10.out)
    go_wp2_with fail
    refine Calls.mono (go_is cp cb cs cn i a y d q p f ph m r v g HF.out HFO.out HD2.out _) ?_
    rintro e11 W11 ⟨rfl, hb⟩
    have HBw11 : Hid (Below w.heap.size w W11) := Lib.hid (HBw10.out.trans ((hb : Below W10.heap.size W10 W11).mono HBw10.out.size))
    have HB0_11 : Hid (Below W0.heap.size W0 W11) := Lib.hid (HB0_10.out.trans ((hb : Below W10.heap.size W10 W11).mono HB0_10.out.size))
    have HB1_11 : Hid (Below W1.heap.size W1 W11) := Lib.hid (HB1_10.out.trans ((hb : Below W10.heap.size W10 W11).mono HB1_10.out.size))
    have HB2_11 : Hid (Below W2.heap.size W2 W11) := Lib.hid (HB2_10.out.trans ((hb : Below W10.heap.size W10 W11).mono HB2_10.out.size))
    have HB3_11 : Hid (Below W3.heap.size W3 W11) := Lib.hid (HB3_10.out.trans ((hb : Below W10.heap.size W10 W11).mono HB3_10.out.size))
    have HB4_11 : Hid (Below W4.heap.size W4 W11) := Lib.hid (HB4_10.out.trans ((hb : Below W10.heap.size W10 W11).mono HB4_10.out.size))
    have HB5_11 : Hid (Below W5.heap.size W5 W11) := Lib.hid (HB5_10.out.trans ((hb : Below W10.heap.size W10 W11).mono HB5_10.out.size))
    have HB6_11 : Hid (Below W6.heap.size W6 W11) := Lib.hid (HB6_10.out.trans ((hb : Below W10.heap.size W10 W11).mono HB6_10.out.size))
    have HB7_11 : Hid (Below W7.heap.size W7 W11) := Lib.hid (HB7_10.out.trans ((hb : Below W10.heap.size W10 W11).mono HB7_10.out.size))
    have HB8_11 : Hid (Below W8.heap.size W8 W11) := Lib.hid (HB8_10.out.trans ((hb : Below W10.heap.size W10 W11).mono HB8_10.out.size))
    have HB9_11 : Hid (Below W9.heap.size W9 W11) := Lib.hid (HB9_10.out.trans ((hb : Below W10.heap.size W10 W11).mono HB9_10.out.size))
    have HB10_11 : Hid (Below W10.heap.size W10 W11) := Lib.hid (hb)
    clear hb
    clear k16_0 k16_1 k16_2 k16_3 k18_0 k18_1 k18_2 k18_3 k6_0 k6_1 k6_2 k6_3 k7_0 k7_1 k7_2 k7_3 k7_4 k7_5 k7_6 k7_7 k7_8 k7_9 k7_10 k7_11
    have hwh : World.whole W11 (W7.heap.size) 4 23 := whole_of (HX16_8.out W11 HB8_11.out) rfl
    go_upto_region 12 with (refine wpList_store_whole 23 (.tmp 16) (.tmp 83) (W7.heap.size) 4 _ 23 (by rfl) (by rfl) hwh (by rfl) (by kernel_rfl) (by kernel_rfl) ?_)
    obtain ⟨W12, HW12⟩ : ∃ W, Hid (World.setAll W11 (W7.heap.size) #[.int .i64 dp2, .int .i64 db2, .int .i64 ds2, .int .i64 dn2] = W) := ⟨_, Lib.hid rfl⟩
    rw [HW12.out]
    have HBw12 : Hid (Below w.heap.size w W12) := Lib.hid (by rw [← HW12.out]; exact setAll_below HBw11.out (LE_8.out))
    have HX6_12 : Hid (∀ W, Below W12.heap.size W12 W → W.heap[w.heap.size]? = some (.cells #[.int .i64 cp, .int .i64 cb, .int .i64 cs, .int .i64 cn] 23 (0, 0))) := Lib.hid (fun W hb => (hb.block _ (by rw [← HW12.out, setAll_size]; exact (Array.getElem?_eq_some_iff.1 (HX0_0.out W11 HB0_11.out)).1)).trans (by rw [← HW12.out]; exact (setAll_other (NE_8_16_6.out)).trans (HX0_0.out W11 HB0_11.out)))
    have HX7_12 : Hid (∀ W, Below W12.heap.size W12 W → W.heap[w.heap.size + 1]? = some (.cells #[.int .i64 i, .int .i64 a, .int .i64 y, .int .i64 d, .int .i64 q, .int .i64 p, .int .i64 f, .int .i64 ph, .int .i64 m, .int .i64 r, .int .i64 v, .bool g] 25 (0, 0))) := Lib.hid (fun W hb => (hb.block _ (by rw [← HW12.out, setAll_size]; exact (Array.getElem?_eq_some_iff.1 (HX1_0.out W11 HB0_11.out)).1)).trans (by rw [← HW12.out]; exact (setAll_other (NE_8_16_7.out)).trans (HX1_0.out W11 HB0_11.out)))
    have HX10_12 : Hid (∀ W, Below W12.heap.size W12 W → W.heap[w.heap.size + 1 + 1]? = some (.cells #[.int .i64 al, .int .i64 as_, .int .i64 an] 27 (0, 0))) := Lib.hid (fun W hb => (hb.block _ (by rw [← HW12.out, setAll_size]; exact (Array.getElem?_eq_some_iff.1 (HX2_0.out W11 HB0_11.out)).1)).trans (by rw [← HW12.out]; exact (setAll_other (NE_8_16_10.out)).trans (HX2_0.out W11 HB0_11.out)))
    have HX11_12 : Hid (∀ W, Below W12.heap.size W12 W → W.heap[w.heap.size + 1 + 1 + 1]? = some (.cells #[.int .i64 bl, .int .i64 bs, .int .i64 bn] 27 (0, 0))) := Lib.hid (fun W hb => (hb.block _ (by rw [← HW12.out, setAll_size]; exact (Array.getElem?_eq_some_iff.1 (HX3_0.out W11 HB0_11.out)).1)).trans (by rw [← HW12.out]; exact (setAll_other (NE_8_16_11.out)).trans (HX3_0.out W11 HB0_11.out)))
    have HX14_12 : Hid (∀ W, Below W12.heap.size W12 W → W.heap[W3.heap.size]? = some (.cells #[.int .i64 0, .int .i64 0, .int .i64 0] 27 (0, 0))) := Lib.hid (fun W hb => (hb.block _ (by rw [← HW12.out, setAll_size]; exact (Array.getElem?_eq_some_iff.1 (HX14_4.out W11 HB4_11.out)).1)).trans (by rw [← HW12.out]; exact (setAll_other (NE_8_16_14.out)).trans (HX14_4.out W11 HB4_11.out)))
    have HX16_12 : Hid (∀ W, Below W12.heap.size W12 W → W.heap[W7.heap.size]? = some (.cells #[.int .i64 dp2, .int .i64 db2, .int .i64 ds2, .int .i64 dn2] 23 (0, 0))) := Lib.hid (fun W hb => (hb.block _ (by rw [← HW12.out, setAll_size]; exact (Array.getElem?_eq_some_iff.1 (HX16_8.out W11 HB8_11.out)).1)).trans (by rw [← HW12.out]; exact setAll_self hwh rfl))
    have HX18_12 : Hid (∀ W, Below W12.heap.size W12 W → W.heap[W9.heap.size]? = some (.cells #[.int .i64 dp1, .int .i64 db1, .int .i64 ds1, .int .i64 dn1] 23 (0, 0))) := Lib.hid (fun W hb => (hb.block _ (by rw [← HW12.out, setAll_size]; exact (Array.getElem?_eq_some_iff.1 (HX18_10.out W11 HB10_11.out)).1)).trans (by rw [← HW12.out]; exact (setAll_other (Ne.symm NE_10_18_16.out)).trans (HX18_10.out W11 HB10_11.out)))
    clear hwh
    obtain ⟨k6_0, k6_1, k6_2, k6_3⟩ := cells4 (HX6_12.out W12 (Below.refl _ _))
    obtain ⟨k7_0, k7_1, k7_2, k7_3, k7_4, k7_5, k7_6, k7_7, k7_8, k7_9, k7_10, k7_11⟩ := order.cells12 (HX7_12.out W12 (Below.refl _ _))
    go_wp2_with fail
    refine Calls.mono (rgo_is cp cb cs cn i a y d q p f ph m r v g HF.out HFO.out HD2.out _) ?_
    rintro e13 W13 ⟨rfl, hb⟩
    have HBw13 : Hid (Below w.heap.size w W13) := Lib.hid (HBw12.out.trans ((hb : Below W12.heap.size W12 W13).mono HBw12.out.size))
    have HB12_13 : Hid (Below W12.heap.size W12 W13) := Lib.hid (hb)
    clear hb
    clear k6_0 k6_1 k6_2 k6_3 k7_0 k7_1 k7_2 k7_3 k7_4 k7_5 k7_6 k7_7 k7_8 k7_9 k7_10 k7_11
    have hwh : World.whole W13 (W9.heap.size) 4 23 := whole_of (HX18_12.out W13 HB12_13.out) rfl
    go_upto_region 13 with (refine wpList_store_whole 23 (.tmp 18) (.tmp 89) (W9.heap.size) 4 _ 23 (by rfl) (by rfl) hwh (by rfl) (by kernel_rfl) (by kernel_rfl) ?_)
    obtain ⟨W14, HW14⟩ : ∃ W, Hid (World.setAll W13 (W9.heap.size) #[.int .i64 dp2, .int .i64 db2, .int .i64 ds2, .int .i64 dn2] = W) := ⟨_, Lib.hid rfl⟩
    rw [HW14.out]
    have HBw14 : Hid (Below w.heap.size w W14) := Lib.hid (by rw [← HW14.out]; exact setAll_below HBw13.out (LE_10.out))
    have HX6_14 : Hid (∀ W, Below W14.heap.size W14 W → W.heap[w.heap.size]? = some (.cells #[.int .i64 cp, .int .i64 cb, .int .i64 cs, .int .i64 cn] 23 (0, 0))) := Lib.hid (fun W hb => (hb.block _ (by rw [← HW14.out, setAll_size]; exact (Array.getElem?_eq_some_iff.1 (HX6_12.out W13 HB12_13.out)).1)).trans (by rw [← HW14.out]; exact (setAll_other (NE_10_18_6.out)).trans (HX6_12.out W13 HB12_13.out)))
    have HX7_14 : Hid (∀ W, Below W14.heap.size W14 W → W.heap[w.heap.size + 1]? = some (.cells #[.int .i64 i, .int .i64 a, .int .i64 y, .int .i64 d, .int .i64 q, .int .i64 p, .int .i64 f, .int .i64 ph, .int .i64 m, .int .i64 r, .int .i64 v, .bool g] 25 (0, 0))) := Lib.hid (fun W hb => (hb.block _ (by rw [← HW14.out, setAll_size]; exact (Array.getElem?_eq_some_iff.1 (HX7_12.out W13 HB12_13.out)).1)).trans (by rw [← HW14.out]; exact (setAll_other (NE_10_18_7.out)).trans (HX7_12.out W13 HB12_13.out)))
    have HX10_14 : Hid (∀ W, Below W14.heap.size W14 W → W.heap[w.heap.size + 1 + 1]? = some (.cells #[.int .i64 al, .int .i64 as_, .int .i64 an] 27 (0, 0))) := Lib.hid (fun W hb => (hb.block _ (by rw [← HW14.out, setAll_size]; exact (Array.getElem?_eq_some_iff.1 (HX10_12.out W13 HB12_13.out)).1)).trans (by rw [← HW14.out]; exact (setAll_other (NE_10_18_10.out)).trans (HX10_12.out W13 HB12_13.out)))
    have HX11_14 : Hid (∀ W, Below W14.heap.size W14 W → W.heap[w.heap.size + 1 + 1 + 1]? = some (.cells #[.int .i64 bl, .int .i64 bs, .int .i64 bn] 27 (0, 0))) := Lib.hid (fun W hb => (hb.block _ (by rw [← HW14.out, setAll_size]; exact (Array.getElem?_eq_some_iff.1 (HX11_12.out W13 HB12_13.out)).1)).trans (by rw [← HW14.out]; exact (setAll_other (NE_10_18_11.out)).trans (HX11_12.out W13 HB12_13.out)))
    have HX14_14 : Hid (∀ W, Below W14.heap.size W14 W → W.heap[W3.heap.size]? = some (.cells #[.int .i64 0, .int .i64 0, .int .i64 0] 27 (0, 0))) := Lib.hid (fun W hb => (hb.block _ (by rw [← HW14.out, setAll_size]; exact (Array.getElem?_eq_some_iff.1 (HX14_12.out W13 HB12_13.out)).1)).trans (by rw [← HW14.out]; exact (setAll_other (NE_10_18_14.out)).trans (HX14_12.out W13 HB12_13.out)))
    have HX16_14 : Hid (∀ W, Below W14.heap.size W14 W → W.heap[W7.heap.size]? = some (.cells #[.int .i64 dp2, .int .i64 db2, .int .i64 ds2, .int .i64 dn2] 23 (0, 0))) := Lib.hid (fun W hb => (hb.block _ (by rw [← HW14.out, setAll_size]; exact (Array.getElem?_eq_some_iff.1 (HX16_12.out W13 HB12_13.out)).1)).trans (by rw [← HW14.out]; exact (setAll_other (NE_10_18_16.out)).trans (HX16_12.out W13 HB12_13.out)))
    have HX18_14 : Hid (∀ W, Below W14.heap.size W14 W → W.heap[W9.heap.size]? = some (.cells #[.int .i64 dp2, .int .i64 db2, .int .i64 ds2, .int .i64 dn2] 23 (0, 0))) := Lib.hid (fun W hb => (hb.block _ (by rw [← HW14.out, setAll_size]; exact (Array.getElem?_eq_some_iff.1 (HX18_12.out W13 HB12_13.out)).1)).trans (by rw [← HW14.out]; exact setAll_self hwh rfl))
    clear hwh
    have heq4 : ∀ W, (Op.equalIn 10000 23 (.agg #[.int .i64 dp2, .int .i64 db2, .int .i64 ds2, .int .i64 dn2]) (.agg #[.int .i64 dp2, .int .i64 db2, .int .i64 ds2, .int .i64 dn2])).run Try.prog W = .ok true W := fun W => eq4_of rfl rfl HF2.out HF2.out (decide_eq_true rfl) W
    obtain ⟨⟨⟨dp3, db3, ds3, dn3⟩, e3⟩, hh⟩ : ∃ x, did ⟨cp, cb, cs, cn⟩ a2 a3 = x := ⟨_, rfl⟩
    have HD3 := Lib.hid hh
    have HF3 : Hid ((⟨dp3, db3, ds3, dn3⟩ : Ce).fine) := Lib.hid (did_fine HF.out hh)
    clear hh
    obtain ⟨k16_0, k16_1, k16_2, k16_3⟩ := cells4 (HX16_14.out W14 (Below.refl _ _))
    obtain ⟨k18_0, k18_1, k18_2, k18_3⟩ := cells4 (HX18_14.out W14 (Below.refl _ _))
    obtain ⟨k6_0, k6_1, k6_2, k6_3⟩ := cells4 (HX6_14.out W14 (Below.refl _ _))
    go_wp2_with fail
    refine Calls.mono (did_is cp cb cs cn a2 a3 HF.out HS.out HQ.out HD3.out _) ?_
    rintro e15 W15 ⟨rfl, hb⟩
    have HBw15 : Hid (Below w.heap.size w W15) := Lib.hid (HBw14.out.trans ((hb : Below W14.heap.size W14 W15).mono HBw14.out.size))
    have HB14_15 : Hid (Below W14.heap.size W14 W15) := Lib.hid (hb)
    clear hb
    clear k16_0 k16_1 k16_2 k16_3 k18_0 k18_1 k18_2 k18_3 k6_0 k6_1 k6_2 k6_3
    have hwh : World.whole W15 (W7.heap.size) 4 23 := whole_of (HX16_14.out W15 HB14_15.out) rfl
    go_upto_region 16 with (refine wpList_store_whole 23 (.tmp 16) (.tmp 104) (W7.heap.size) 4 _ 23 (by rfl) (by rfl) hwh (by rfl) (by kernel_rfl) (by kernel_rfl) ?_)
    obtain ⟨W16, HW16⟩ : ∃ W, Hid (World.setAll W15 (W7.heap.size) #[.int .i64 dp3, .int .i64 db3, .int .i64 ds3, .int .i64 dn3] = W) := ⟨_, Lib.hid rfl⟩
    rw [HW16.out]
    have HBw16 : Hid (Below w.heap.size w W16) := Lib.hid (by rw [← HW16.out]; exact setAll_below HBw15.out (LE_8.out))
    have HX6_16 : Hid (∀ W, Below W16.heap.size W16 W → W.heap[w.heap.size]? = some (.cells #[.int .i64 cp, .int .i64 cb, .int .i64 cs, .int .i64 cn] 23 (0, 0))) := Lib.hid (fun W hb => (hb.block _ (by rw [← HW16.out, setAll_size]; exact (Array.getElem?_eq_some_iff.1 (HX6_14.out W15 HB14_15.out)).1)).trans (by rw [← HW16.out]; exact (setAll_other (NE_8_16_6.out)).trans (HX6_14.out W15 HB14_15.out)))
    have HX7_16 : Hid (∀ W, Below W16.heap.size W16 W → W.heap[w.heap.size + 1]? = some (.cells #[.int .i64 i, .int .i64 a, .int .i64 y, .int .i64 d, .int .i64 q, .int .i64 p, .int .i64 f, .int .i64 ph, .int .i64 m, .int .i64 r, .int .i64 v, .bool g] 25 (0, 0))) := Lib.hid (fun W hb => (hb.block _ (by rw [← HW16.out, setAll_size]; exact (Array.getElem?_eq_some_iff.1 (HX7_14.out W15 HB14_15.out)).1)).trans (by rw [← HW16.out]; exact (setAll_other (NE_8_16_7.out)).trans (HX7_14.out W15 HB14_15.out)))
    have HX10_16 : Hid (∀ W, Below W16.heap.size W16 W → W.heap[w.heap.size + 1 + 1]? = some (.cells #[.int .i64 al, .int .i64 as_, .int .i64 an] 27 (0, 0))) := Lib.hid (fun W hb => (hb.block _ (by rw [← HW16.out, setAll_size]; exact (Array.getElem?_eq_some_iff.1 (HX10_14.out W15 HB14_15.out)).1)).trans (by rw [← HW16.out]; exact (setAll_other (NE_8_16_10.out)).trans (HX10_14.out W15 HB14_15.out)))
    have HX11_16 : Hid (∀ W, Below W16.heap.size W16 W → W.heap[w.heap.size + 1 + 1 + 1]? = some (.cells #[.int .i64 bl, .int .i64 bs, .int .i64 bn] 27 (0, 0))) := Lib.hid (fun W hb => (hb.block _ (by rw [← HW16.out, setAll_size]; exact (Array.getElem?_eq_some_iff.1 (HX11_14.out W15 HB14_15.out)).1)).trans (by rw [← HW16.out]; exact (setAll_other (NE_8_16_11.out)).trans (HX11_14.out W15 HB14_15.out)))
    have HX14_16 : Hid (∀ W, Below W16.heap.size W16 W → W.heap[W3.heap.size]? = some (.cells #[.int .i64 0, .int .i64 0, .int .i64 0] 27 (0, 0))) := Lib.hid (fun W hb => (hb.block _ (by rw [← HW16.out, setAll_size]; exact (Array.getElem?_eq_some_iff.1 (HX14_14.out W15 HB14_15.out)).1)).trans (by rw [← HW16.out]; exact (setAll_other (NE_8_16_14.out)).trans (HX14_14.out W15 HB14_15.out)))
    have HX16_16 : Hid (∀ W, Below W16.heap.size W16 W → W.heap[W7.heap.size]? = some (.cells #[.int .i64 dp3, .int .i64 db3, .int .i64 ds3, .int .i64 dn3] 23 (0, 0))) := Lib.hid (fun W hb => (hb.block _ (by rw [← HW16.out, setAll_size]; exact (Array.getElem?_eq_some_iff.1 (HX16_14.out W15 HB14_15.out)).1)).trans (by rw [← HW16.out]; exact setAll_self hwh rfl))
    have HX18_16 : Hid (∀ W, Below W16.heap.size W16 W → W.heap[W9.heap.size]? = some (.cells #[.int .i64 dp2, .int .i64 db2, .int .i64 ds2, .int .i64 dn2] 23 (0, 0))) := Lib.hid (fun W hb => (hb.block _ (by rw [← HW16.out, setAll_size]; exact (Array.getElem?_eq_some_iff.1 (HX18_14.out W15 HB14_15.out)).1)).trans (by rw [← HW16.out]; exact (setAll_other (Ne.symm NE_10_18_16.out)).trans (HX18_14.out W15 HB14_15.out)))
    clear hwh
    obtain ⟨k6_0, k6_1, k6_2, k6_3⟩ := cells4 (HX6_16.out W16 (Below.refl _ _))
    go_wp2_with fail
    refine Calls.mono (rdid_is cp cb cs cn a2 a3 HF.out HQ.out HD3.out _) ?_
    rintro e17 W17 ⟨rfl, hb⟩
    have HBw17 : Hid (Below w.heap.size w W17) := Lib.hid (HBw16.out.trans ((hb : Below W16.heap.size W16 W17).mono HBw16.out.size))
    have HB16_17 : Hid (Below W16.heap.size W16 W17) := Lib.hid (hb)
    clear hb
    clear k6_0 k6_1 k6_2 k6_3
    have hwh : World.whole W17 (W9.heap.size) 4 23 := whole_of (HX18_16.out W17 HB16_17.out) rfl
    go_upto_region 17 with (refine wpList_store_whole 23 (.tmp 18) (.tmp 111) (W9.heap.size) 4 _ 23 (by rfl) (by rfl) hwh (by rfl) (by kernel_rfl) (by kernel_rfl) ?_)
    obtain ⟨W18, HW18⟩ : ∃ W, Hid (World.setAll W17 (W9.heap.size) #[.int .i64 dp3, .int .i64 db3, .int .i64 ds3, .int .i64 dn3] = W) := ⟨_, Lib.hid rfl⟩
    rw [HW18.out]
    have HBw18 : Hid (Below w.heap.size w W18) := Lib.hid (by rw [← HW18.out]; exact setAll_below HBw17.out (LE_10.out))
    have HX6_18 : Hid (∀ W, Below W18.heap.size W18 W → W.heap[w.heap.size]? = some (.cells #[.int .i64 cp, .int .i64 cb, .int .i64 cs, .int .i64 cn] 23 (0, 0))) := Lib.hid (fun W hb => (hb.block _ (by rw [← HW18.out, setAll_size]; exact (Array.getElem?_eq_some_iff.1 (HX6_16.out W17 HB16_17.out)).1)).trans (by rw [← HW18.out]; exact (setAll_other (NE_10_18_6.out)).trans (HX6_16.out W17 HB16_17.out)))
    have HX7_18 : Hid (∀ W, Below W18.heap.size W18 W → W.heap[w.heap.size + 1]? = some (.cells #[.int .i64 i, .int .i64 a, .int .i64 y, .int .i64 d, .int .i64 q, .int .i64 p, .int .i64 f, .int .i64 ph, .int .i64 m, .int .i64 r, .int .i64 v, .bool g] 25 (0, 0))) := Lib.hid (fun W hb => (hb.block _ (by rw [← HW18.out, setAll_size]; exact (Array.getElem?_eq_some_iff.1 (HX7_16.out W17 HB16_17.out)).1)).trans (by rw [← HW18.out]; exact (setAll_other (NE_10_18_7.out)).trans (HX7_16.out W17 HB16_17.out)))
    have HX10_18 : Hid (∀ W, Below W18.heap.size W18 W → W.heap[w.heap.size + 1 + 1]? = some (.cells #[.int .i64 al, .int .i64 as_, .int .i64 an] 27 (0, 0))) := Lib.hid (fun W hb => (hb.block _ (by rw [← HW18.out, setAll_size]; exact (Array.getElem?_eq_some_iff.1 (HX10_16.out W17 HB16_17.out)).1)).trans (by rw [← HW18.out]; exact (setAll_other (NE_10_18_10.out)).trans (HX10_16.out W17 HB16_17.out)))
    have HX11_18 : Hid (∀ W, Below W18.heap.size W18 W → W.heap[w.heap.size + 1 + 1 + 1]? = some (.cells #[.int .i64 bl, .int .i64 bs, .int .i64 bn] 27 (0, 0))) := Lib.hid (fun W hb => (hb.block _ (by rw [← HW18.out, setAll_size]; exact (Array.getElem?_eq_some_iff.1 (HX11_16.out W17 HB16_17.out)).1)).trans (by rw [← HW18.out]; exact (setAll_other (NE_10_18_11.out)).trans (HX11_16.out W17 HB16_17.out)))
    have HX14_18 : Hid (∀ W, Below W18.heap.size W18 W → W.heap[W3.heap.size]? = some (.cells #[.int .i64 0, .int .i64 0, .int .i64 0] 27 (0, 0))) := Lib.hid (fun W hb => (hb.block _ (by rw [← HW18.out, setAll_size]; exact (Array.getElem?_eq_some_iff.1 (HX14_16.out W17 HB16_17.out)).1)).trans (by rw [← HW18.out]; exact (setAll_other (NE_10_18_14.out)).trans (HX14_16.out W17 HB16_17.out)))
    have HX16_18 : Hid (∀ W, Below W18.heap.size W18 W → W.heap[W7.heap.size]? = some (.cells #[.int .i64 dp3, .int .i64 db3, .int .i64 ds3, .int .i64 dn3] 23 (0, 0))) := Lib.hid (fun W hb => (hb.block _ (by rw [← HW18.out, setAll_size]; exact (Array.getElem?_eq_some_iff.1 (HX16_16.out W17 HB16_17.out)).1)).trans (by rw [← HW18.out]; exact (setAll_other (NE_10_18_16.out)).trans (HX16_16.out W17 HB16_17.out)))
    have HX18_18 : Hid (∀ W, Below W18.heap.size W18 W → W.heap[W9.heap.size]? = some (.cells #[.int .i64 dp3, .int .i64 db3, .int .i64 ds3, .int .i64 dn3] 23 (0, 0))) := Lib.hid (fun W hb => (hb.block _ (by rw [← HW18.out, setAll_size]; exact (Array.getElem?_eq_some_iff.1 (HX18_16.out W17 HB16_17.out)).1)).trans (by rw [← HW18.out]; exact setAll_self hwh rfl))
    clear hwh
    have heq5 : ∀ W, (Op.equalIn 10000 23 (.agg #[.int .i64 dp3, .int .i64 db3, .int .i64 ds3, .int .i64 dn3]) (.agg #[.int .i64 dp3, .int .i64 db3, .int .i64 ds3, .int .i64 dn3])).run Try.prog W = .ok true W := fun W => eq4_of rfl rfl HF3.out HF3.out (decide_eq_true rfl) W
    obtain ⟨cv6, HCv6⟩ : ∃ x, Hid (covers ⟨al, as_, an⟩ ⟨bl, bs, bn⟩ = x) := ⟨_, Lib.hid rfl⟩
    rcases cv6 with _ | _
    · go_upto_region 17 with fail
      refine wp_region_held_drew (S := fun W => Below W18.heap.size W18 W) (by kernel_rfl) (Below.refl _ _).drew (fun _ => ?_)
      obtain ⟨W19, hW19⟩ : ∃ x, x = W18.drew := ⟨_, rfl⟩
      rw [← hW19]
      have HBw19 : Hid (Below w.heap.size w W19) := Lib.hid (HBw18.out.trans ((by rw [hW19]; exact (Below.refl _ _).drew : Below W18.heap.size W18 W19).mono HBw18.out.size))
      have HB18_19 : Hid (Below W18.heap.size W18 W19) := Lib.hid (by rw [hW19]; exact (Below.refl _ _).drew)
      clear hW19
      refine wpAnyH_take (i := 0) (v := .agg #[.int .i64 dp3, .int .i64 db3, .int .i64 ds3, .int .i64 dn3]) rfl (by kernel_rfl) (by kernel_rfl) (by kernel_rfl) (fun _ _ _ h => h) (Or.inl ⟨by kernel_rfl, ?h0⟩) HB18_19.out ?_
      case h0 => (intro WX hWX; obtain ⟨y0, y1, y2, y3⟩ := cells4 (HX16_18.out WX (show Below W18.heap.size W18 WX from hWX)); go_simp)
      go_simp
      refine wpAnyH_take (i := 1) (v := .agg #[.int .i64 dp3, .int .i64 db3, .int .i64 ds3, .int .i64 dn3]) rfl (by kernel_rfl) (by kernel_rfl) (by kernel_rfl) (fun _ _ _ h => h) (Or.inl ⟨by kernel_rfl, ?h1⟩) HB18_19.out ?_
      case h1 => (intro WX hWX; obtain ⟨y0, y1, y2, y3⟩ := cells4 (HX18_18.out WX (show Below W18.heap.size W18 WX from hWX)); go_simp)
      go_simp
      refine wpAnyH_take (i := 2) (v := .bool true) rfl (by kernel_rfl) (by kernel_rfl) (by kernel_rfl) (fun _ _ _ h => h) (Or.inl ⟨by kernel_rfl, ?h2⟩) HB18_19.out ?_
      case h2 => (intro WX hWX; go_simp)
      go_simp
      refine wpAnyH_take (i := 3) (v := .bool true) rfl (by kernel_rfl) (by kernel_rfl) (by kernel_rfl) (fun _ _ _ h => h) (Or.inl ⟨by kernel_rfl, ?h3⟩) HB18_19.out ?_
      case h3 => (intro WX hWX; go_simp)
      go_simp
      refine wpAnyH_take (i := 4) (v := .int .i64 e3) rfl (by kernel_rfl) (by kernel_rfl) (by kernel_rfl) (fun _ _ _ h => h) (Or.inl ⟨by kernel_rfl, ?h4⟩) HB18_19.out ?_
      case h4 => (intro WX hWX; go_simp)
      go_simp
      refine wpAnyH_take (i := 5) (v := .int .i64 e3) rfl (by kernel_rfl) (by kernel_rfl) (by kernel_rfl) (fun _ _ _ h => h) (Or.inl ⟨by kernel_rfl, ?h5⟩) HB18_19.out ?_
      case h5 => (intro WX hWX; go_simp)
      go_simp
      refine wpAnyH_take (i := 6) (v := .bool true) rfl (by kernel_rfl) (by kernel_rfl) (by kernel_rfl) (fun _ _ _ h => h) (Or.inl ⟨by kernel_rfl, ?h6⟩) HB18_19.out ?_
      case h6 => (intro WX hWX; go_simp)
      go_simp
      refine wpAnyH_take (i := 7) (v := .bool true) rfl (by kernel_rfl) (by kernel_rfl) (by kernel_rfl) (fun _ _ _ h => h) (Or.inl ⟨by kernel_rfl, ?h7⟩) HB18_19.out ?_
      case h7 => (intro WX hWX; go_simp)
      go_simp
      refine wpAnyH_take (i := 8) (v := .bool true) rfl (by kernel_rfl) (by kernel_rfl) (by kernel_rfl) (fun _ _ _ h => h) (Or.inl ⟨by kernel_rfl, ?h8⟩) HB18_19.out ?_
      case h8 => (intro WX hWX; go_simp)
      go_simp
      refine wpAnyH_take (i := 9) (v := .agg #[.int .i64 al, .int .i64 as_, .int .i64 an]) rfl (by kernel_rfl) (by kernel_rfl) (by kernel_rfl) (fun _ _ _ h => h) (Or.inl ⟨by kernel_rfl, ?h9⟩) HB18_19.out ?_
      case h9 => (intro WX hWX; obtain ⟨y0, y1, y2⟩ := cells3 (HX10_18.out WX (show Below W18.heap.size W18 WX from hWX)); go_simp)
      go_simp
      refine wpAnyH_take (i := 10) (v := .agg #[.int .i64 bl, .int .i64 bs, .int .i64 bn]) rfl (by kernel_rfl) (by kernel_rfl) (by kernel_rfl) (fun _ _ _ h => h) (Or.inl ⟨by kernel_rfl, ?h10⟩) HB18_19.out ?_
      case h10 => (intro WX hWX; obtain ⟨y0, y1, y2⟩ := cells3 (HX11_18.out WX (show Below W18.heap.size W18 WX from hWX)); go_simp)
      go_simp
      refine wpAnyH_take (i := 12) (v := .agg #[.int .i64 al, .int .i64 as_, .int .i64 an]) rfl (by kernel_rfl) (by kernel_rfl) (by kernel_rfl) (fun _ _ _ h => h) (Or.inl ⟨by kernel_rfl, ?h12⟩) HB18_19.out ?_
      case h12 => (intro WX hWX; obtain ⟨y0, y1, y2⟩ := cells3 (HX10_18.out WX (show Below W18.heap.size W18 WX from hWX)); go_simp)
      go_simp
      refine wpAnyH_take (i := 13) (v := .agg #[.int .i64 bl, .int .i64 bs, .int .i64 bn]) rfl (by kernel_rfl) (by kernel_rfl) (by kernel_rfl) (fun _ _ _ h => h) (Or.inl ⟨by kernel_rfl, ?h13⟩) HB18_19.out ?_
      case h13 => (intro WX hWX; obtain ⟨y0, y1, y2⟩ := cells3 (HX11_18.out WX (show Below W18.heap.size W18 WX from hWX)); go_simp)
      go_simp
      refine wpAnyH_ready (rs := [11]) (by kernel_rfl) (by simp) ?_
      refine AllReadyH.cons rfl (fun K hK => ?_) AllReadyH.nil
      go_simp
      go_wp2_with (refine Calls.mono (covers_is al as_ an bl bs bn HCv6.out _) ?_; rintro e20 W20 ⟨rfl, hb⟩)
      have HBw20 : Hid (Below w.heap.size w W20) := Lib.hid (HBw19.out.trans ((hb : Below W19.heap.size W19 W20).mono HBw19.out.size))
      have HB18_20 : Hid (Below W18.heap.size W18 W20) := Lib.hid (HB18_19.out.trans ((hb : Below W19.heap.size W19 W20).mono HB18_19.out.size))
      have HB19_20 : Hid (Below W19.heap.size W19 W20) := Lib.hid (hb)
      clear hb
      refine hK.out _ _ HB18_20.out (fun _ => ?_)
      clear hK K
      go_simp
      refine wpAnyH_ready (rs := [14]) (by kernel_rfl) (by simp) ?_
      refine AllReadyH.cons rfl (fun K hK => ?_) AllReadyH.nil
      go_simp
      go_wp2_with (refine Calls.mono (rcovers_is al as_ an bl bs bn HCv6.out _) ?_; rintro e21 W21 ⟨rfl, hb⟩)
      have HBw21 : Hid (Below w.heap.size w W21) := Lib.hid (HBw20.out.trans ((hb : Below W20.heap.size W20 W21).mono HBw20.out.size))
      have HB18_21 : Hid (Below W18.heap.size W18 W21) := Lib.hid (HB18_20.out.trans ((hb : Below W20.heap.size W20 W21).mono HB18_20.out.size))
      have HB19_21 : Hid (Below W19.heap.size W19 W21) := Lib.hid (HB19_20.out.trans ((hb : Below W20.heap.size W20 W21).mono HB19_20.out.size))
      have HB20_21 : Hid (Below W20.heap.size W20 W21) := Lib.hid (hb)
      clear hb
      refine hK.out _ _ HB18_21.out (fun _ => ?_)
      clear hK K
      go_simp
      refine wpAnyH_take (i := 15) (v := .bool true) rfl (by kernel_rfl) (by kernel_rfl) (by kernel_rfl) (fun _ _ _ h => h) (Or.inl ⟨by kernel_rfl, ?h15⟩) HB18_21.out ?_
      case h15 => (intro WX hWX; go_simp)
      go_simp
      refine wpAnyH_take (i := 16) (v := .bool true) rfl (by kernel_rfl) (by kernel_rfl) (by kernel_rfl) (fun _ _ _ h => h) (Or.inl ⟨by kernel_rfl, ?h16⟩) HB18_21.out ?_
      case h16 => (intro WX hWX; go_simp)
      go_simp
      refine wpAnyH_take (i := 17) (v := .bool true) rfl (by kernel_rfl) (by kernel_rfl) (by kernel_rfl) (fun _ _ _ h => h) (Or.inl ⟨by kernel_rfl, ?h17⟩) HB18_21.out ?_
      case h17 => (intro WX hWX; go_simp)
      go_simp
      refine wpAnyH_done (by kernel_rfl) ?_ _
      go_wp2_with fail
      go_ret
      exact ⟨rec.retB (by first | rfl | (simp; done) | (simp; omega)), HBw21.out⟩
    · go_upto_region 17 with fail
      refine wp_region_held_drew (S := fun W => Below W18.heap.size W18 W) (by kernel_rfl) (Below.refl _ _).drew (fun _ => ?_)
      obtain ⟨W19, hW19⟩ : ∃ x, x = W18.drew := ⟨_, rfl⟩
      rw [← hW19]
      have HBw19 : Hid (Below w.heap.size w W19) := Lib.hid (HBw18.out.trans ((by rw [hW19]; exact (Below.refl _ _).drew : Below W18.heap.size W18 W19).mono HBw18.out.size))
      have HB18_19 : Hid (Below W18.heap.size W18 W19) := Lib.hid (by rw [hW19]; exact (Below.refl _ _).drew)
      clear hW19
      refine wpAnyH_take (i := 0) (v := .agg #[.int .i64 dp3, .int .i64 db3, .int .i64 ds3, .int .i64 dn3]) rfl (by kernel_rfl) (by kernel_rfl) (by kernel_rfl) (fun _ _ _ h => h) (Or.inl ⟨by kernel_rfl, ?h0⟩) HB18_19.out ?_
      case h0 => (intro WX hWX; obtain ⟨y0, y1, y2, y3⟩ := cells4 (HX16_18.out WX (show Below W18.heap.size W18 WX from hWX)); go_simp)
      go_simp
      refine wpAnyH_take (i := 1) (v := .agg #[.int .i64 dp3, .int .i64 db3, .int .i64 ds3, .int .i64 dn3]) rfl (by kernel_rfl) (by kernel_rfl) (by kernel_rfl) (fun _ _ _ h => h) (Or.inl ⟨by kernel_rfl, ?h1⟩) HB18_19.out ?_
      case h1 => (intro WX hWX; obtain ⟨y0, y1, y2, y3⟩ := cells4 (HX18_18.out WX (show Below W18.heap.size W18 WX from hWX)); go_simp)
      go_simp
      refine wpAnyH_take (i := 2) (v := .bool true) rfl (by kernel_rfl) (by kernel_rfl) (by kernel_rfl) (fun _ _ _ h => h) (Or.inl ⟨by kernel_rfl, ?h2⟩) HB18_19.out ?_
      case h2 => (intro WX hWX; go_simp)
      go_simp
      refine wpAnyH_take (i := 3) (v := .bool true) rfl (by kernel_rfl) (by kernel_rfl) (by kernel_rfl) (fun _ _ _ h => h) (Or.inl ⟨by kernel_rfl, ?h3⟩) HB18_19.out ?_
      case h3 => (intro WX hWX; go_simp)
      go_simp
      refine wpAnyH_take (i := 4) (v := .int .i64 e3) rfl (by kernel_rfl) (by kernel_rfl) (by kernel_rfl) (fun _ _ _ h => h) (Or.inl ⟨by kernel_rfl, ?h4⟩) HB18_19.out ?_
      case h4 => (intro WX hWX; go_simp)
      go_simp
      refine wpAnyH_take (i := 5) (v := .int .i64 e3) rfl (by kernel_rfl) (by kernel_rfl) (by kernel_rfl) (fun _ _ _ h => h) (Or.inl ⟨by kernel_rfl, ?h5⟩) HB18_19.out ?_
      case h5 => (intro WX hWX; go_simp)
      go_simp
      refine wpAnyH_take (i := 6) (v := .bool true) rfl (by kernel_rfl) (by kernel_rfl) (by kernel_rfl) (fun _ _ _ h => h) (Or.inl ⟨by kernel_rfl, ?h6⟩) HB18_19.out ?_
      case h6 => (intro WX hWX; go_simp)
      go_simp
      refine wpAnyH_take (i := 7) (v := .bool true) rfl (by kernel_rfl) (by kernel_rfl) (by kernel_rfl) (fun _ _ _ h => h) (Or.inl ⟨by kernel_rfl, ?h7⟩) HB18_19.out ?_
      case h7 => (intro WX hWX; go_simp)
      go_simp
      refine wpAnyH_take (i := 8) (v := .bool true) rfl (by kernel_rfl) (by kernel_rfl) (by kernel_rfl) (fun _ _ _ h => h) (Or.inl ⟨by kernel_rfl, ?h8⟩) HB18_19.out ?_
      case h8 => (intro WX hWX; go_simp)
      go_simp
      refine wpAnyH_take (i := 9) (v := .agg #[.int .i64 al, .int .i64 as_, .int .i64 an]) rfl (by kernel_rfl) (by kernel_rfl) (by kernel_rfl) (fun _ _ _ h => h) (Or.inl ⟨by kernel_rfl, ?h9⟩) HB18_19.out ?_
      case h9 => (intro WX hWX; obtain ⟨y0, y1, y2⟩ := cells3 (HX10_18.out WX (show Below W18.heap.size W18 WX from hWX)); go_simp)
      go_simp
      refine wpAnyH_take (i := 10) (v := .agg #[.int .i64 bl, .int .i64 bs, .int .i64 bn]) rfl (by kernel_rfl) (by kernel_rfl) (by kernel_rfl) (fun _ _ _ h => h) (Or.inl ⟨by kernel_rfl, ?h10⟩) HB18_19.out ?_
      case h10 => (intro WX hWX; obtain ⟨y0, y1, y2⟩ := cells3 (HX11_18.out WX (show Below W18.heap.size W18 WX from hWX)); go_simp)
      go_simp
      refine wpAnyH_take (i := 12) (v := .agg #[.int .i64 al, .int .i64 as_, .int .i64 an]) rfl (by kernel_rfl) (by kernel_rfl) (by kernel_rfl) (fun _ _ _ h => h) (Or.inl ⟨by kernel_rfl, ?h12⟩) HB18_19.out ?_
      case h12 => (intro WX hWX; obtain ⟨y0, y1, y2⟩ := cells3 (HX10_18.out WX (show Below W18.heap.size W18 WX from hWX)); go_simp)
      go_simp
      refine wpAnyH_take (i := 13) (v := .agg #[.int .i64 bl, .int .i64 bs, .int .i64 bn]) rfl (by kernel_rfl) (by kernel_rfl) (by kernel_rfl) (fun _ _ _ h => h) (Or.inl ⟨by kernel_rfl, ?h13⟩) HB18_19.out ?_
      case h13 => (intro WX hWX; obtain ⟨y0, y1, y2⟩ := cells3 (HX11_18.out WX (show Below W18.heap.size W18 WX from hWX)); go_simp)
      go_simp
      refine wpAnyH_ready (rs := [11]) (by kernel_rfl) (by simp) ?_
      refine AllReadyH.cons rfl (fun K hK => ?_) AllReadyH.nil
      go_simp
      go_wp2_with (refine Calls.mono (covers_is al as_ an bl bs bn HCv6.out _) ?_; rintro e20 W20 ⟨rfl, hb⟩)
      have HBw20 : Hid (Below w.heap.size w W20) := Lib.hid (HBw19.out.trans ((hb : Below W19.heap.size W19 W20).mono HBw19.out.size))
      have HB18_20 : Hid (Below W18.heap.size W18 W20) := Lib.hid (HB18_19.out.trans ((hb : Below W19.heap.size W19 W20).mono HB18_19.out.size))
      have HB19_20 : Hid (Below W19.heap.size W19 W20) := Lib.hid (hb)
      clear hb
      refine hK.out _ _ HB18_20.out (fun _ => ?_)
      clear hK K
      go_simp
      refine wpAnyH_ready (rs := [14]) (by kernel_rfl) (by simp) ?_
      refine AllReadyH.cons rfl (fun K hK => ?_) AllReadyH.nil
      go_simp
      go_wp2_with (refine Calls.mono (rcovers_is al as_ an bl bs bn HCv6.out _) ?_; rintro e21 W21 ⟨rfl, hb⟩)
      have HBw21 : Hid (Below w.heap.size w W21) := Lib.hid (HBw20.out.trans ((hb : Below W20.heap.size W20 W21).mono HBw20.out.size))
      have HB18_21 : Hid (Below W18.heap.size W18 W21) := Lib.hid (HB18_20.out.trans ((hb : Below W20.heap.size W20 W21).mono HB18_20.out.size))
      have HB19_21 : Hid (Below W19.heap.size W19 W21) := Lib.hid (HB19_20.out.trans ((hb : Below W20.heap.size W20 W21).mono HB19_20.out.size))
      have HB20_21 : Hid (Below W20.heap.size W20 W21) := Lib.hid (hb)
      clear hb
      refine hK.out _ _ HB18_21.out (fun _ => ?_)
      clear hK K
      go_simp
      refine wpAnyH_take (i := 15) (v := .bool true) rfl (by kernel_rfl) (by kernel_rfl) (by kernel_rfl) (fun _ _ _ h => h) (Or.inl ⟨by kernel_rfl, ?h15⟩) HB18_21.out ?_
      case h15 => (intro WX hWX; go_simp)
      go_simp
      refine wpAnyH_take (i := 16) (v := .bool true) rfl (by kernel_rfl) (by kernel_rfl) (by kernel_rfl) (fun _ _ _ h => h) (Or.inl ⟨by kernel_rfl, ?h16⟩) HB18_21.out ?_
      case h16 => (intro WX hWX; go_simp)
      go_simp
      refine wpAnyH_take (i := 17) (v := .bool true) rfl (by kernel_rfl) (by kernel_rfl) (by kernel_rfl) (fun _ _ _ h => h) (Or.inl ⟨by kernel_rfl, ?h17⟩) HB18_21.out ?_
      case h17 => (intro WX hWX; go_simp)
      go_simp
      refine wpAnyH_done (by kernel_rfl) ?_ _
      go_wp2_with fail
      go_ret
      exact ⟨rec.retB (by first | rfl | (simp; done) | (simp; omega)), HBw21.out⟩
  · obtain ⟨k6_0, k6_1, k6_2, k6_3⟩ := cells4 (HX0_0.out W1 HB0_1.out)
    go_wp2_with fail
    refine Calls.mono (rright_is cp cb cs cn HF.out HCb1.out _) ?_
    rintro e2 W2 ⟨rfl, hb⟩
    have HBw2 : Hid (Below w.heap.size w W2) := Lib.hid (HBw1.out.trans ((hb : Below W1.heap.size W1 W2).mono HBw1.out.size))
    have HB0_2 : Hid (Below W0.heap.size W0 W2) := Lib.hid (HB0_1.out.trans ((hb : Below W1.heap.size W1 W2).mono HB0_1.out.size))
    have HB1_2 : Hid (Below W1.heap.size W1 W2) := Lib.hid (hb)
    clear hb
    have HO : Hid (of_ ⟨cp, cb, cs, cn⟩ = (⟨cp + cb, cs - cp, cn⟩, 0)) := Lib.hid (by unfold of_; rw [if_pos HCb1.out])
    have HFX : Hid ((⟨cp + cb, cs - cp, cn⟩ : Ex).fine) := Lib.hid (of_fine HF.out HO.out)
    clear k6_0 k6_1 k6_2 k6_3
    obtain ⟨k6_0, k6_1, k6_2, k6_3⟩ := cells4 (HX0_0.out W2 HB0_2.out)
    go_wp2_with fail
    refine Calls.mono (of_is cp cb cs cn HF.out HO.out _) ?_
    rintro e3 W3 ⟨rfl, hb⟩
    have HBw3 : Hid (Below w.heap.size w W3) := Lib.hid (HBw2.out.trans ((hb : Below W2.heap.size W2 W3).mono HBw2.out.size))
    have HB0_3 : Hid (Below W0.heap.size W0 W3) := Lib.hid (HB0_2.out.trans ((hb : Below W2.heap.size W2 W3).mono HB0_2.out.size))
    have HB1_3 : Hid (Below W1.heap.size W1 W3) := Lib.hid (HB1_2.out.trans ((hb : Below W2.heap.size W2 W3).mono HB1_2.out.size))
    have HB2_3 : Hid (Below W2.heap.size W2 W3) := Lib.hid (hb)
    clear hb
    clear k6_0 k6_1 k6_2 k6_3
    go_upto_region 5 with fail
    obtain ⟨W4, HW4⟩ : ∃ W, Hid ((W3.alloc (.cells #[.int .i64 (cp + cb), .int .i64 (cs - cp), .int .i64 cn] 27)) = W) := ⟨_, Lib.hid rfl⟩
    have NE_4_14_6 : Hid (w.heap.size ≠ W3.heap.size) := Lib.hid (Nat.ne_of_lt (Array.getElem?_eq_some_iff.1 (HX0_0.out W3 HB0_3.out)).1)
    have NE_4_14_7 : Hid (w.heap.size + 1 ≠ W3.heap.size) := Lib.hid (Nat.ne_of_lt (Array.getElem?_eq_some_iff.1 (HX1_0.out W3 HB0_3.out)).1)
    have NE_4_14_10 : Hid (w.heap.size + 1 + 1 ≠ W3.heap.size) := Lib.hid (Nat.ne_of_lt (Array.getElem?_eq_some_iff.1 (HX2_0.out W3 HB0_3.out)).1)
    have NE_4_14_11 : Hid (w.heap.size + 1 + 1 + 1 ≠ W3.heap.size) := Lib.hid (Nat.ne_of_lt (Array.getElem?_eq_some_iff.1 (HX3_0.out W3 HB0_3.out)).1)
    have LE_4 : Hid (w.heap.size ≤ W3.heap.size) := Lib.hid HBw3.out.size
    have HBw4 : Hid (Below w.heap.size w W4) := Lib.hid (HBw3.out.trans ((by rw [← HW4.out]; exact (Below.refl _ _).alloc (Nat.le_refl _) _ : Below W3.heap.size W3 W4).mono HBw3.out.size))
    have HB0_4 : Hid (Below W0.heap.size W0 W4) := Lib.hid (HB0_3.out.trans ((by rw [← HW4.out]; exact (Below.refl _ _).alloc (Nat.le_refl _) _ : Below W3.heap.size W3 W4).mono HB0_3.out.size))
    have HB1_4 : Hid (Below W1.heap.size W1 W4) := Lib.hid (HB1_3.out.trans ((by rw [← HW4.out]; exact (Below.refl _ _).alloc (Nat.le_refl _) _ : Below W3.heap.size W3 W4).mono HB1_3.out.size))
    have HB2_4 : Hid (Below W2.heap.size W2 W4) := Lib.hid (HB2_3.out.trans ((by rw [← HW4.out]; exact (Below.refl _ _).alloc (Nat.le_refl _) _ : Below W3.heap.size W3 W4).mono HB2_3.out.size))
    have HB3_4 : Hid (Below W3.heap.size W3 W4) := Lib.hid (by rw [← HW4.out]; exact (Below.refl _ _).alloc (Nat.le_refl _) _)
    have HX14_4 : Hid (∀ W, Below W4.heap.size W4 W → W.heap[W3.heap.size]? = some (.cells #[.int .i64 (cp + cb), .int .i64 (cs - cp), .int .i64 cn] 27 (0, 0))) := Lib.hid (fun W hb => (hb.block _ (by rw [← HW4.out]; simp)).trans (by rw [← HW4.out]; exact heap_alloc_new _ _))
    rw [HW4.out]
    have heq7 : ∀ W, (Op.equalIn 10000 27 (.agg #[.int .i64 (cp + cb), .int .i64 (cs - cp), .int .i64 cn]) (.agg #[.int .i64 (cp + cb), .int .i64 (cs - cp), .int .i64 cn])).run Try.prog W = .ok true W := fun W => eq3_of rfl rfl HFX.out HFX.out (decide_eq_true rfl) W
    go_upto_region 5 with fail
    refine wp_region_held_drew (S := fun W => Below W4.heap.size W4 W) (by kernel_rfl) (Below.refl _ _).drew (fun _ => ?_)
    obtain ⟨W5, hW5⟩ : ∃ x, x = W4.drew := ⟨_, rfl⟩
    rw [← hW5]
    have HBw5 : Hid (Below w.heap.size w W5) := Lib.hid (HBw4.out.trans ((by rw [hW5]; exact (Below.refl _ _).drew : Below W4.heap.size W4 W5).mono HBw4.out.size))
    have HB0_5 : Hid (Below W0.heap.size W0 W5) := Lib.hid (HB0_4.out.trans ((by rw [hW5]; exact (Below.refl _ _).drew : Below W4.heap.size W4 W5).mono HB0_4.out.size))
    have HB1_5 : Hid (Below W1.heap.size W1 W5) := Lib.hid (HB1_4.out.trans ((by rw [hW5]; exact (Below.refl _ _).drew : Below W4.heap.size W4 W5).mono HB1_4.out.size))
    have HB2_5 : Hid (Below W2.heap.size W2 W5) := Lib.hid (HB2_4.out.trans ((by rw [hW5]; exact (Below.refl _ _).drew : Below W4.heap.size W4 W5).mono HB2_4.out.size))
    have HB3_5 : Hid (Below W3.heap.size W3 W5) := Lib.hid (HB3_4.out.trans ((by rw [hW5]; exact (Below.refl _ _).drew : Below W4.heap.size W4 W5).mono HB3_4.out.size))
    have HB4_5 : Hid (Below W4.heap.size W4 W5) := Lib.hid (by rw [hW5]; exact (Below.refl _ _).drew)
    clear hW5
    refine wpAnyH_take (i := 0) (v := .agg #[.int .i64 cp, .int .i64 cb, .int .i64 cs, .int .i64 cn]) rfl (by kernel_rfl) (by kernel_rfl) (by kernel_rfl) (fun _ _ _ h => h) (Or.inl ⟨by kernel_rfl, ?h0⟩) HB4_5.out ?_
    case h0 => (intro WX hWX; obtain ⟨y0, y1, y2, y3⟩ := cells4 (HX0_0.out WX (HB0_4.out.trans ((show Below W4.heap.size W4 WX from hWX).mono HB0_4.out.size))); go_simp)
    go_simp
    refine wpAnyH_take (i := 2) (v := .bool true) rfl (by kernel_rfl) (by kernel_rfl) (by kernel_rfl) (fun _ _ _ h => h) (Or.inl ⟨by kernel_rfl, ?h2⟩) HB4_5.out ?_
    case h2 => (intro WX hWX; go_simp)
    go_simp
    refine wpAnyH_ready (rs := [1]) (by kernel_rfl) (by simp) ?_
    refine AllReadyH.cons rfl (fun K hK => ?_) AllReadyH.nil
    go_simp
    go_wp2_with (refine Calls.mono (right_is cp cb cs cn HF.out HCb1.out _) ?_; rintro e6 W6 ⟨rfl, hb⟩)
    have HBw6 : Hid (Below w.heap.size w W6) := Lib.hid (HBw5.out.trans ((hb : Below W5.heap.size W5 W6).mono HBw5.out.size))
    have HB0_6 : Hid (Below W0.heap.size W0 W6) := Lib.hid (HB0_5.out.trans ((hb : Below W5.heap.size W5 W6).mono HB0_5.out.size))
    have HB1_6 : Hid (Below W1.heap.size W1 W6) := Lib.hid (HB1_5.out.trans ((hb : Below W5.heap.size W5 W6).mono HB1_5.out.size))
    have HB2_6 : Hid (Below W2.heap.size W2 W6) := Lib.hid (HB2_5.out.trans ((hb : Below W5.heap.size W5 W6).mono HB2_5.out.size))
    have HB3_6 : Hid (Below W3.heap.size W3 W6) := Lib.hid (HB3_5.out.trans ((hb : Below W5.heap.size W5 W6).mono HB3_5.out.size))
    have HB4_6 : Hid (Below W4.heap.size W4 W6) := Lib.hid (HB4_5.out.trans ((hb : Below W5.heap.size W5 W6).mono HB4_5.out.size))
    have HB5_6 : Hid (Below W5.heap.size W5 W6) := Lib.hid (hb)
    clear hb
    refine hK.out _ _ HB4_6.out (fun _ => ?_)
    clear hK K
    go_simp
    refine wpAnyH_take (i := 3) (v := .bool false) rfl (by kernel_rfl) (by kernel_rfl) (by kernel_rfl) (fun _ _ _ h => h) (Or.inl ⟨by kernel_rfl, ?h3⟩) HB4_6.out ?_
    case h3 => (intro WX hWX; go_simp)
    go_simp
    refine wpAnyH_take (i := 4) (v := .bool false) rfl (by kernel_rfl) (by kernel_rfl) (by kernel_rfl) (fun _ _ _ h => h) (Or.inl ⟨by kernel_rfl, ?h4⟩) HB4_6.out ?_
    case h4 => (intro WX hWX; go_simp)
    go_simp
    refine wpAnyH_take (i := 5) (v := .bool true) rfl (by kernel_rfl) (by kernel_rfl) (by kernel_rfl) (fun _ _ _ h => h) (Or.inl ⟨by kernel_rfl, ?h5⟩) HB4_6.out ?_
    case h5 => (intro WX hWX; go_simp)
    go_simp
    refine wpAnyH_take (i := 6) (v := .bool true) rfl (by kernel_rfl) (by kernel_rfl) (by kernel_rfl) (fun _ _ _ h => h) (Or.inl ⟨by kernel_rfl, ?h6⟩) HB4_6.out ?_
    case h6 => (intro WX hWX; go_simp)
    go_simp
    refine wpAnyH_take (i := 7) (v := .int .i64 0) rfl (by kernel_rfl) (by kernel_rfl) (by kernel_rfl) (fun _ _ _ h => h) (Or.inl ⟨by kernel_rfl, ?h7⟩) HB4_6.out ?_
    case h7 => (intro WX hWX; go_simp)
    go_simp
    refine wpAnyH_take (i := 8) (v := .bool false) rfl (by kernel_rfl) (by kernel_rfl) (by kernel_rfl) (fun _ _ _ h => h) (Or.inl ⟨by kernel_rfl, ?h8⟩) HB4_6.out ?_
    case h8 => (intro WX hWX; go_simp)
    go_simp
    refine wpAnyH_take (i := 9) (v := .bool false) rfl (by kernel_rfl) (by kernel_rfl) (by kernel_rfl) (fun _ _ _ h => h) (Or.inl ⟨by kernel_rfl, ?h9⟩) HB4_6.out ?_
    case h9 => (intro WX hWX; go_simp)
    go_simp
    refine wpAnyH_take (i := 10) (v := .agg #[.int .i64 (cp + cb), .int .i64 (cs - cp), .int .i64 cn]) rfl (by kernel_rfl) (by kernel_rfl) (by kernel_rfl) (fun _ _ _ h => h) (Or.inl ⟨by kernel_rfl, ?h10⟩) HB4_6.out ?_
    case h10 => (intro WX hWX; obtain ⟨y0, y1, y2⟩ := cells3 (HX14_4.out WX (show Below W4.heap.size W4 WX from hWX)); go_simp)
    go_simp
    refine wpAnyH_take (i := 11) (v := .agg #[.int .i64 cp, .int .i64 cb, .int .i64 cs, .int .i64 cn]) rfl (by kernel_rfl) (by kernel_rfl) (by kernel_rfl) (fun _ _ _ h => h) (Or.inl ⟨by kernel_rfl, ?h11⟩) HB4_6.out ?_
    case h11 => (intro WX hWX; obtain ⟨y0, y1, y2, y3⟩ := cells4 (HX0_0.out WX (HB0_4.out.trans ((show Below W4.heap.size W4 WX from hWX).mono HB0_4.out.size))); go_simp)
    go_simp
    refine wpAnyH_ready (rs := [12]) (by kernel_rfl) (by simp) ?_
    refine AllReadyH.cons rfl (fun K hK => ?_) AllReadyH.nil
    go_simp
    go_wp2_with (refine Calls.mono (rof_any cp cb cs cn HCb1.out _) ?_; rintro e7 W7 ⟨rfl, hb⟩)
    have HBw7 : Hid (Below w.heap.size w W7) := Lib.hid (HBw6.out.trans ((hb : Below W6.heap.size W6 W7).mono HBw6.out.size))
    have HB0_7 : Hid (Below W0.heap.size W0 W7) := Lib.hid (HB0_6.out.trans ((hb : Below W6.heap.size W6 W7).mono HB0_6.out.size))
    have HB1_7 : Hid (Below W1.heap.size W1 W7) := Lib.hid (HB1_6.out.trans ((hb : Below W6.heap.size W6 W7).mono HB1_6.out.size))
    have HB2_7 : Hid (Below W2.heap.size W2 W7) := Lib.hid (HB2_6.out.trans ((hb : Below W6.heap.size W6 W7).mono HB2_6.out.size))
    have HB3_7 : Hid (Below W3.heap.size W3 W7) := Lib.hid (HB3_6.out.trans ((hb : Below W6.heap.size W6 W7).mono HB3_6.out.size))
    have HB4_7 : Hid (Below W4.heap.size W4 W7) := Lib.hid (HB4_6.out.trans ((hb : Below W6.heap.size W6 W7).mono HB4_6.out.size))
    have HB5_7 : Hid (Below W5.heap.size W5 W7) := Lib.hid (HB5_6.out.trans ((hb : Below W6.heap.size W6 W7).mono HB5_6.out.size))
    have HB6_7 : Hid (Below W6.heap.size W6 W7) := Lib.hid (hb)
    clear hb
    refine hK.out _ _ HB4_7.out (fun _ => ?_)
    clear hK K
    go_simp
    refine wpAnyH_take (i := 13) (v := .bool false) rfl (by kernel_rfl) (by kernel_rfl) (by kernel_rfl) (fun _ _ _ h => h) (Or.inl ⟨by kernel_rfl, ?h13⟩) HB4_7.out ?_
    case h13 => (intro WX hWX; go_simp)
    go_simp
    refine wpAnyH_take (i := 14) (v := .bool false) rfl (by kernel_rfl) (by kernel_rfl) (by kernel_rfl) (fun _ _ _ h => h) (Or.inl ⟨by kernel_rfl, ?h14⟩) HB4_7.out ?_
    case h14 => (intro WX hWX; go_simp)
    go_simp
    refine wpAnyH_take (i := 15) (v := .bool false) rfl (by kernel_rfl) (by kernel_rfl) (by kernel_rfl) (fun _ _ _ h => h) (Or.inl ⟨by kernel_rfl, ?h15⟩) HB4_7.out ?_
    case h15 => (intro WX hWX; go_simp)
    go_simp
    refine wpAnyH_take (i := 16) (v := .bool false) rfl (by kernel_rfl) (by kernel_rfl) (by kernel_rfl) (fun _ _ _ h => h) (Or.inl ⟨by kernel_rfl, ?h16⟩) HB4_7.out ?_
    case h16 => (intro WX hWX; go_simp)
    go_simp
    refine wpAnyH_take (i := 17) (v := .bool false) rfl (by kernel_rfl) (by kernel_rfl) (by kernel_rfl) (fun _ _ _ h => h) (Or.inl ⟨by kernel_rfl, ?h17⟩) HB4_7.out ?_
    case h17 => (intro WX hWX; go_simp)
    go_simp
    refine wpAnyH_take (i := 18) (v := .bool true) rfl (by kernel_rfl) (by kernel_rfl) (by kernel_rfl) (fun _ _ _ h => h) (Or.inl ⟨by kernel_rfl, ?h18⟩) HB4_7.out ?_
    case h18 => (intro WX hWX; go_simp)
    go_simp
    refine wpAnyH_take (i := 19) (v := .bool false) rfl (by kernel_rfl) (by kernel_rfl) (by kernel_rfl) (fun _ _ _ h => h) (Or.inl ⟨by kernel_rfl, ?h19⟩) HB4_7.out ?_
    case h19 => (intro WX hWX; go_simp)
    go_simp
    refine wpAnyH_take (i := 20) (v := .bool false) rfl (by kernel_rfl) (by kernel_rfl) (by kernel_rfl) (fun _ _ _ h => h) (Or.inl ⟨by kernel_rfl, ?h20⟩) HB4_7.out ?_
    case h20 => (intro WX hWX; go_simp)
    go_simp
    refine wpAnyH_take (i := 21) (v := undef) rfl (by kernel_rfl) (by kernel_rfl) (by kernel_rfl) (fun _ _ _ h => h) (Or.inr ⟨by kernel_rfl, rfl⟩) HB4_7.out ?_
    go_simp
    refine wpAnyH_take (i := 22) (v := undef) rfl (by kernel_rfl) (by kernel_rfl) (by kernel_rfl) (fun _ _ _ h => h) (Or.inr ⟨by kernel_rfl, rfl⟩) HB4_7.out ?_
    go_simp
    refine wpAnyH_take (i := 23) (v := undef) rfl (by kernel_rfl) (by kernel_rfl) (by kernel_rfl) (fun _ _ _ h => h) (Or.inr ⟨by kernel_rfl, rfl⟩) HB4_7.out ?_
    go_simp
    refine wpAnyH_take (i := 24) (v := undef) rfl (by kernel_rfl) (by kernel_rfl) (by kernel_rfl) (fun _ _ _ h => h) (Or.inr ⟨by kernel_rfl, rfl⟩) HB4_7.out ?_
    go_simp
    refine wpAnyH_take (i := 25) (v := undef) rfl (by kernel_rfl) (by kernel_rfl) (by kernel_rfl) (fun _ _ _ h => h) (Or.inr ⟨by kernel_rfl, rfl⟩) HB4_7.out ?_
    go_simp
    refine wpAnyH_take (i := 26) (v := undef) rfl (by kernel_rfl) (by kernel_rfl) (by kernel_rfl) (fun _ _ _ h => h) (Or.inr ⟨by kernel_rfl, rfl⟩) HB4_7.out ?_
    go_simp
    refine wpAnyH_take (i := 27) (v := undef) rfl (by kernel_rfl) (by kernel_rfl) (by kernel_rfl) (fun _ _ _ h => h) (Or.inr ⟨by kernel_rfl, rfl⟩) HB4_7.out ?_
    go_simp
    refine wpAnyH_take (i := 28) (v := .bool false) rfl (by kernel_rfl) (by kernel_rfl) (by kernel_rfl) (fun _ _ _ h => h) (Or.inl ⟨by kernel_rfl, ?h28⟩) HB4_7.out ?_
    case h28 => (intro WX hWX; go_simp)
    go_simp
    refine wpAnyH_take (i := 29) (v := .bool false) rfl (by kernel_rfl) (by kernel_rfl) (by kernel_rfl) (fun _ _ _ h => h) (Or.inl ⟨by kernel_rfl, ?h29⟩) HB4_7.out ?_
    case h29 => (intro WX hWX; go_simp)
    go_simp
    refine wpAnyH_done (by kernel_rfl) ?_ _
    obtain ⟨⟨⟨dp1, db1, ds1, dn1⟩, e1⟩, hh⟩ : ∃ x, come ⟨cp, cb, cs, cn⟩ ⟨i, a, y, d, q, p, f, ph, m, r, v, g⟩ = x := ⟨_, rfl⟩
    have HD1 := Lib.hid hh
    have HF1 : Hid ((⟨dp1, db1, ds1, dn1⟩ : Ce).fine) := Lib.hid (come_fine HF.out hh)
    clear hh
    obtain ⟨k6_0, k6_1, k6_2, k6_3⟩ := cells4 (HX0_0.out W7 HB0_7.out)
    obtain ⟨k7_0, k7_1, k7_2, k7_3, k7_4, k7_5, k7_6, k7_7, k7_8, k7_9, k7_10, k7_11⟩ := order.cells12 (HX1_0.out W7 HB0_7.out)
    go_wp2_with fail
    refine Calls.mono (come_is cp cb cs cn i a y d q p f ph m r v g HF.out HFO.out HD1.out _) ?_
    rintro e8 W8 ⟨rfl, hb⟩
    have HBw8 : Hid (Below w.heap.size w W8) := Lib.hid (HBw7.out.trans ((hb : Below W7.heap.size W7 W8).mono HBw7.out.size))
    have HB0_8 : Hid (Below W0.heap.size W0 W8) := Lib.hid (HB0_7.out.trans ((hb : Below W7.heap.size W7 W8).mono HB0_7.out.size))
    have HB1_8 : Hid (Below W1.heap.size W1 W8) := Lib.hid (HB1_7.out.trans ((hb : Below W7.heap.size W7 W8).mono HB1_7.out.size))
    have HB2_8 : Hid (Below W2.heap.size W2 W8) := Lib.hid (HB2_7.out.trans ((hb : Below W7.heap.size W7 W8).mono HB2_7.out.size))
    have HB3_8 : Hid (Below W3.heap.size W3 W8) := Lib.hid (HB3_7.out.trans ((hb : Below W7.heap.size W7 W8).mono HB3_7.out.size))
    have HB4_8 : Hid (Below W4.heap.size W4 W8) := Lib.hid (HB4_7.out.trans ((hb : Below W7.heap.size W7 W8).mono HB4_7.out.size))
    have HB5_8 : Hid (Below W5.heap.size W5 W8) := Lib.hid (HB5_7.out.trans ((hb : Below W7.heap.size W7 W8).mono HB5_7.out.size))
    have HB6_8 : Hid (Below W6.heap.size W6 W8) := Lib.hid (HB6_7.out.trans ((hb : Below W7.heap.size W7 W8).mono HB6_7.out.size))
    have HB7_8 : Hid (Below W7.heap.size W7 W8) := Lib.hid (hb)
    clear hb
    clear k6_0 k6_1 k6_2 k6_3 k7_0 k7_1 k7_2 k7_3 k7_4 k7_5 k7_6 k7_7 k7_8 k7_9 k7_10 k7_11
    go_upto_region 8 with fail
    obtain ⟨W9, HW9⟩ : ∃ W, Hid ((W8.alloc (.cells #[.int .i64 dp1, .int .i64 db1, .int .i64 ds1, .int .i64 dn1] 23)) = W) := ⟨_, Lib.hid rfl⟩
    have NE_9_16_6 : Hid (w.heap.size ≠ W8.heap.size) := Lib.hid (Nat.ne_of_lt (Array.getElem?_eq_some_iff.1 (HX0_0.out W8 HB0_8.out)).1)
    have NE_9_16_7 : Hid (w.heap.size + 1 ≠ W8.heap.size) := Lib.hid (Nat.ne_of_lt (Array.getElem?_eq_some_iff.1 (HX1_0.out W8 HB0_8.out)).1)
    have NE_9_16_10 : Hid (w.heap.size + 1 + 1 ≠ W8.heap.size) := Lib.hid (Nat.ne_of_lt (Array.getElem?_eq_some_iff.1 (HX2_0.out W8 HB0_8.out)).1)
    have NE_9_16_11 : Hid (w.heap.size + 1 + 1 + 1 ≠ W8.heap.size) := Lib.hid (Nat.ne_of_lt (Array.getElem?_eq_some_iff.1 (HX3_0.out W8 HB0_8.out)).1)
    have NE_9_16_14 : Hid (W3.heap.size ≠ W8.heap.size) := Lib.hid (Nat.ne_of_lt (Array.getElem?_eq_some_iff.1 (HX14_4.out W8 HB4_8.out)).1)
    have LE_9 : Hid (w.heap.size ≤ W8.heap.size) := Lib.hid HBw8.out.size
    have HBw9 : Hid (Below w.heap.size w W9) := Lib.hid (HBw8.out.trans ((by rw [← HW9.out]; exact (Below.refl _ _).alloc (Nat.le_refl _) _ : Below W8.heap.size W8 W9).mono HBw8.out.size))
    have HB0_9 : Hid (Below W0.heap.size W0 W9) := Lib.hid (HB0_8.out.trans ((by rw [← HW9.out]; exact (Below.refl _ _).alloc (Nat.le_refl _) _ : Below W8.heap.size W8 W9).mono HB0_8.out.size))
    have HB1_9 : Hid (Below W1.heap.size W1 W9) := Lib.hid (HB1_8.out.trans ((by rw [← HW9.out]; exact (Below.refl _ _).alloc (Nat.le_refl _) _ : Below W8.heap.size W8 W9).mono HB1_8.out.size))
    have HB2_9 : Hid (Below W2.heap.size W2 W9) := Lib.hid (HB2_8.out.trans ((by rw [← HW9.out]; exact (Below.refl _ _).alloc (Nat.le_refl _) _ : Below W8.heap.size W8 W9).mono HB2_8.out.size))
    have HB3_9 : Hid (Below W3.heap.size W3 W9) := Lib.hid (HB3_8.out.trans ((by rw [← HW9.out]; exact (Below.refl _ _).alloc (Nat.le_refl _) _ : Below W8.heap.size W8 W9).mono HB3_8.out.size))
    have HB4_9 : Hid (Below W4.heap.size W4 W9) := Lib.hid (HB4_8.out.trans ((by rw [← HW9.out]; exact (Below.refl _ _).alloc (Nat.le_refl _) _ : Below W8.heap.size W8 W9).mono HB4_8.out.size))
    have HB5_9 : Hid (Below W5.heap.size W5 W9) := Lib.hid (HB5_8.out.trans ((by rw [← HW9.out]; exact (Below.refl _ _).alloc (Nat.le_refl _) _ : Below W8.heap.size W8 W9).mono HB5_8.out.size))
    have HB6_9 : Hid (Below W6.heap.size W6 W9) := Lib.hid (HB6_8.out.trans ((by rw [← HW9.out]; exact (Below.refl _ _).alloc (Nat.le_refl _) _ : Below W8.heap.size W8 W9).mono HB6_8.out.size))
    have HB7_9 : Hid (Below W7.heap.size W7 W9) := Lib.hid (HB7_8.out.trans ((by rw [← HW9.out]; exact (Below.refl _ _).alloc (Nat.le_refl _) _ : Below W8.heap.size W8 W9).mono HB7_8.out.size))
    have HB8_9 : Hid (Below W8.heap.size W8 W9) := Lib.hid (by rw [← HW9.out]; exact (Below.refl _ _).alloc (Nat.le_refl _) _)
    have HX16_9 : Hid (∀ W, Below W9.heap.size W9 W → W.heap[W8.heap.size]? = some (.cells #[.int .i64 dp1, .int .i64 db1, .int .i64 ds1, .int .i64 dn1] 23 (0, 0))) := Lib.hid (fun W hb => (hb.block _ (by rw [← HW9.out]; simp)).trans (by rw [← HW9.out]; exact heap_alloc_new _ _))
    rw [HW9.out]
    obtain ⟨k6_0, k6_1, k6_2, k6_3⟩ := cells4 (HX0_0.out W9 HB0_9.out)
    obtain ⟨k7_0, k7_1, k7_2, k7_3, k7_4, k7_5, k7_6, k7_7, k7_8, k7_9, k7_10, k7_11⟩ := order.cells12 (HX1_0.out W9 HB0_9.out)
    go_wp2_with fail
    refine Calls.mono (rcome_is cp cb cs cn i a y d q p f ph m r v g HF.out HFO.out HD1.out _) ?_
    rintro e10 W10 ⟨rfl, hb⟩
    have HBw10 : Hid (Below w.heap.size w W10) := Lib.hid (HBw9.out.trans ((hb : Below W9.heap.size W9 W10).mono HBw9.out.size))
    have HB0_10 : Hid (Below W0.heap.size W0 W10) := Lib.hid (HB0_9.out.trans ((hb : Below W9.heap.size W9 W10).mono HB0_9.out.size))
    have HB1_10 : Hid (Below W1.heap.size W1 W10) := Lib.hid (HB1_9.out.trans ((hb : Below W9.heap.size W9 W10).mono HB1_9.out.size))
    have HB2_10 : Hid (Below W2.heap.size W2 W10) := Lib.hid (HB2_9.out.trans ((hb : Below W9.heap.size W9 W10).mono HB2_9.out.size))
    have HB3_10 : Hid (Below W3.heap.size W3 W10) := Lib.hid (HB3_9.out.trans ((hb : Below W9.heap.size W9 W10).mono HB3_9.out.size))
    have HB4_10 : Hid (Below W4.heap.size W4 W10) := Lib.hid (HB4_9.out.trans ((hb : Below W9.heap.size W9 W10).mono HB4_9.out.size))
    have HB5_10 : Hid (Below W5.heap.size W5 W10) := Lib.hid (HB5_9.out.trans ((hb : Below W9.heap.size W9 W10).mono HB5_9.out.size))
    have HB6_10 : Hid (Below W6.heap.size W6 W10) := Lib.hid (HB6_9.out.trans ((hb : Below W9.heap.size W9 W10).mono HB6_9.out.size))
    have HB7_10 : Hid (Below W7.heap.size W7 W10) := Lib.hid (HB7_9.out.trans ((hb : Below W9.heap.size W9 W10).mono HB7_9.out.size))
    have HB8_10 : Hid (Below W8.heap.size W8 W10) := Lib.hid (HB8_9.out.trans ((hb : Below W9.heap.size W9 W10).mono HB8_9.out.size))
    have HB9_10 : Hid (Below W9.heap.size W9 W10) := Lib.hid (hb)
    clear hb
    clear k6_0 k6_1 k6_2 k6_3 k7_0 k7_1 k7_2 k7_3 k7_4 k7_5 k7_6 k7_7 k7_8 k7_9 k7_10 k7_11
    go_upto_region 9 with fail
    obtain ⟨W11, HW11⟩ : ∃ W, Hid ((W10.alloc (.cells #[.int .i64 dp1, .int .i64 db1, .int .i64 ds1, .int .i64 dn1] 23)) = W) := ⟨_, Lib.hid rfl⟩
    have NE_11_18_6 : Hid (w.heap.size ≠ W10.heap.size) := Lib.hid (Nat.ne_of_lt (Array.getElem?_eq_some_iff.1 (HX0_0.out W10 HB0_10.out)).1)
    have NE_11_18_7 : Hid (w.heap.size + 1 ≠ W10.heap.size) := Lib.hid (Nat.ne_of_lt (Array.getElem?_eq_some_iff.1 (HX1_0.out W10 HB0_10.out)).1)
    have NE_11_18_10 : Hid (w.heap.size + 1 + 1 ≠ W10.heap.size) := Lib.hid (Nat.ne_of_lt (Array.getElem?_eq_some_iff.1 (HX2_0.out W10 HB0_10.out)).1)
    have NE_11_18_11 : Hid (w.heap.size + 1 + 1 + 1 ≠ W10.heap.size) := Lib.hid (Nat.ne_of_lt (Array.getElem?_eq_some_iff.1 (HX3_0.out W10 HB0_10.out)).1)
    have NE_11_18_14 : Hid (W3.heap.size ≠ W10.heap.size) := Lib.hid (Nat.ne_of_lt (Array.getElem?_eq_some_iff.1 (HX14_4.out W10 HB4_10.out)).1)
    have NE_11_18_16 : Hid (W8.heap.size ≠ W10.heap.size) := Lib.hid (Nat.ne_of_lt (Array.getElem?_eq_some_iff.1 (HX16_9.out W10 HB9_10.out)).1)
    have LE_11 : Hid (w.heap.size ≤ W10.heap.size) := Lib.hid HBw10.out.size
    have HBw11 : Hid (Below w.heap.size w W11) := Lib.hid (HBw10.out.trans ((by rw [← HW11.out]; exact (Below.refl _ _).alloc (Nat.le_refl _) _ : Below W10.heap.size W10 W11).mono HBw10.out.size))
    have HB0_11 : Hid (Below W0.heap.size W0 W11) := Lib.hid (HB0_10.out.trans ((by rw [← HW11.out]; exact (Below.refl _ _).alloc (Nat.le_refl _) _ : Below W10.heap.size W10 W11).mono HB0_10.out.size))
    have HB1_11 : Hid (Below W1.heap.size W1 W11) := Lib.hid (HB1_10.out.trans ((by rw [← HW11.out]; exact (Below.refl _ _).alloc (Nat.le_refl _) _ : Below W10.heap.size W10 W11).mono HB1_10.out.size))
    have HB2_11 : Hid (Below W2.heap.size W2 W11) := Lib.hid (HB2_10.out.trans ((by rw [← HW11.out]; exact (Below.refl _ _).alloc (Nat.le_refl _) _ : Below W10.heap.size W10 W11).mono HB2_10.out.size))
    have HB3_11 : Hid (Below W3.heap.size W3 W11) := Lib.hid (HB3_10.out.trans ((by rw [← HW11.out]; exact (Below.refl _ _).alloc (Nat.le_refl _) _ : Below W10.heap.size W10 W11).mono HB3_10.out.size))
    have HB4_11 : Hid (Below W4.heap.size W4 W11) := Lib.hid (HB4_10.out.trans ((by rw [← HW11.out]; exact (Below.refl _ _).alloc (Nat.le_refl _) _ : Below W10.heap.size W10 W11).mono HB4_10.out.size))
    have HB5_11 : Hid (Below W5.heap.size W5 W11) := Lib.hid (HB5_10.out.trans ((by rw [← HW11.out]; exact (Below.refl _ _).alloc (Nat.le_refl _) _ : Below W10.heap.size W10 W11).mono HB5_10.out.size))
    have HB6_11 : Hid (Below W6.heap.size W6 W11) := Lib.hid (HB6_10.out.trans ((by rw [← HW11.out]; exact (Below.refl _ _).alloc (Nat.le_refl _) _ : Below W10.heap.size W10 W11).mono HB6_10.out.size))
    have HB7_11 : Hid (Below W7.heap.size W7 W11) := Lib.hid (HB7_10.out.trans ((by rw [← HW11.out]; exact (Below.refl _ _).alloc (Nat.le_refl _) _ : Below W10.heap.size W10 W11).mono HB7_10.out.size))
    have HB8_11 : Hid (Below W8.heap.size W8 W11) := Lib.hid (HB8_10.out.trans ((by rw [← HW11.out]; exact (Below.refl _ _).alloc (Nat.le_refl _) _ : Below W10.heap.size W10 W11).mono HB8_10.out.size))
    have HB9_11 : Hid (Below W9.heap.size W9 W11) := Lib.hid (HB9_10.out.trans ((by rw [← HW11.out]; exact (Below.refl _ _).alloc (Nat.le_refl _) _ : Below W10.heap.size W10 W11).mono HB9_10.out.size))
    have HB10_11 : Hid (Below W10.heap.size W10 W11) := Lib.hid (by rw [← HW11.out]; exact (Below.refl _ _).alloc (Nat.le_refl _) _)
    have HX18_11 : Hid (∀ W, Below W11.heap.size W11 W → W.heap[W10.heap.size]? = some (.cells #[.int .i64 dp1, .int .i64 db1, .int .i64 ds1, .int .i64 dn1] 23 (0, 0))) := Lib.hid (fun W hb => (hb.block _ (by rw [← HW11.out]; simp)).trans (by rw [← HW11.out]; exact heap_alloc_new _ _))
    rw [HW11.out]
    have heq8 : ∀ W, (Op.equalIn 10000 23 (.agg #[.int .i64 dp1, .int .i64 db1, .int .i64 ds1, .int .i64 dn1]) (.agg #[.int .i64 dp1, .int .i64 db1, .int .i64 ds1, .int .i64 dn1])).run Try.prog W = .ok true W := fun W => eq4_of rfl rfl HF1.out HF1.out (decide_eq_true rfl) W
    obtain ⟨⟨⟨dp2, db2, ds2, dn2⟩, e2⟩, hh⟩ : ∃ x, go ⟨cp, cb, cs, cn⟩ ⟨i, a, y, d, q, p, f, ph, m, r, v, g⟩ = x := ⟨_, rfl⟩
    have HD2 := Lib.hid hh
    have HF2 : Hid ((⟨dp2, db2, ds2, dn2⟩ : Ce).fine) := Lib.hid (go_fine HF.out hh)
    clear hh
    obtain ⟨k16_0, k16_1, k16_2, k16_3⟩ := cells4 (HX16_9.out W11 HB9_11.out)
    obtain ⟨k18_0, k18_1, k18_2, k18_3⟩ := cells4 (HX18_11.out W11 (Below.refl _ _))
    obtain ⟨k6_0, k6_1, k6_2, k6_3⟩ := cells4 (HX0_0.out W11 HB0_11.out)
    obtain ⟨k7_0, k7_1, k7_2, k7_3, k7_4, k7_5, k7_6, k7_7, k7_8, k7_9, k7_10, k7_11⟩ := order.cells12 (HX1_0.out W11 HB0_11.out)
    go_wp2_with fail
    refine Calls.mono (go_is cp cb cs cn i a y d q p f ph m r v g HF.out HFO.out HD2.out _) ?_
    rintro e12 W12 ⟨rfl, hb⟩
    have HBw12 : Hid (Below w.heap.size w W12) := Lib.hid (HBw11.out.trans ((hb : Below W11.heap.size W11 W12).mono HBw11.out.size))
    have HB0_12 : Hid (Below W0.heap.size W0 W12) := Lib.hid (HB0_11.out.trans ((hb : Below W11.heap.size W11 W12).mono HB0_11.out.size))
    have HB1_12 : Hid (Below W1.heap.size W1 W12) := Lib.hid (HB1_11.out.trans ((hb : Below W11.heap.size W11 W12).mono HB1_11.out.size))
    have HB2_12 : Hid (Below W2.heap.size W2 W12) := Lib.hid (HB2_11.out.trans ((hb : Below W11.heap.size W11 W12).mono HB2_11.out.size))
    have HB3_12 : Hid (Below W3.heap.size W3 W12) := Lib.hid (HB3_11.out.trans ((hb : Below W11.heap.size W11 W12).mono HB3_11.out.size))
    have HB4_12 : Hid (Below W4.heap.size W4 W12) := Lib.hid (HB4_11.out.trans ((hb : Below W11.heap.size W11 W12).mono HB4_11.out.size))
    have HB5_12 : Hid (Below W5.heap.size W5 W12) := Lib.hid (HB5_11.out.trans ((hb : Below W11.heap.size W11 W12).mono HB5_11.out.size))
    have HB6_12 : Hid (Below W6.heap.size W6 W12) := Lib.hid (HB6_11.out.trans ((hb : Below W11.heap.size W11 W12).mono HB6_11.out.size))
    have HB7_12 : Hid (Below W7.heap.size W7 W12) := Lib.hid (HB7_11.out.trans ((hb : Below W11.heap.size W11 W12).mono HB7_11.out.size))
    have HB8_12 : Hid (Below W8.heap.size W8 W12) := Lib.hid (HB8_11.out.trans ((hb : Below W11.heap.size W11 W12).mono HB8_11.out.size))
    have HB9_12 : Hid (Below W9.heap.size W9 W12) := Lib.hid (HB9_11.out.trans ((hb : Below W11.heap.size W11 W12).mono HB9_11.out.size))
    have HB10_12 : Hid (Below W10.heap.size W10 W12) := Lib.hid (HB10_11.out.trans ((hb : Below W11.heap.size W11 W12).mono HB10_11.out.size))
    have HB11_12 : Hid (Below W11.heap.size W11 W12) := Lib.hid (hb)
    clear hb
    clear k16_0 k16_1 k16_2 k16_3 k18_0 k18_1 k18_2 k18_3 k6_0 k6_1 k6_2 k6_3 k7_0 k7_1 k7_2 k7_3 k7_4 k7_5 k7_6 k7_7 k7_8 k7_9 k7_10 k7_11
    have hwh : World.whole W12 (W8.heap.size) 4 23 := whole_of (HX16_9.out W12 HB9_12.out) rfl
    go_upto_region 12 with (refine wpList_store_whole 23 (.tmp 16) (.tmp 83) (W8.heap.size) 4 _ 23 (by rfl) (by rfl) hwh (by rfl) (by kernel_rfl) (by kernel_rfl) ?_)
    obtain ⟨W13, HW13⟩ : ∃ W, Hid (World.setAll W12 (W8.heap.size) #[.int .i64 dp2, .int .i64 db2, .int .i64 ds2, .int .i64 dn2] = W) := ⟨_, Lib.hid rfl⟩
    rw [HW13.out]
    have HBw13 : Hid (Below w.heap.size w W13) := Lib.hid (by rw [← HW13.out]; exact setAll_below HBw12.out (LE_9.out))
    have HX6_13 : Hid (∀ W, Below W13.heap.size W13 W → W.heap[w.heap.size]? = some (.cells #[.int .i64 cp, .int .i64 cb, .int .i64 cs, .int .i64 cn] 23 (0, 0))) := Lib.hid (fun W hb => (hb.block _ (by rw [← HW13.out, setAll_size]; exact (Array.getElem?_eq_some_iff.1 (HX0_0.out W12 HB0_12.out)).1)).trans (by rw [← HW13.out]; exact (setAll_other (NE_9_16_6.out)).trans (HX0_0.out W12 HB0_12.out)))
    have HX7_13 : Hid (∀ W, Below W13.heap.size W13 W → W.heap[w.heap.size + 1]? = some (.cells #[.int .i64 i, .int .i64 a, .int .i64 y, .int .i64 d, .int .i64 q, .int .i64 p, .int .i64 f, .int .i64 ph, .int .i64 m, .int .i64 r, .int .i64 v, .bool g] 25 (0, 0))) := Lib.hid (fun W hb => (hb.block _ (by rw [← HW13.out, setAll_size]; exact (Array.getElem?_eq_some_iff.1 (HX1_0.out W12 HB0_12.out)).1)).trans (by rw [← HW13.out]; exact (setAll_other (NE_9_16_7.out)).trans (HX1_0.out W12 HB0_12.out)))
    have HX10_13 : Hid (∀ W, Below W13.heap.size W13 W → W.heap[w.heap.size + 1 + 1]? = some (.cells #[.int .i64 al, .int .i64 as_, .int .i64 an] 27 (0, 0))) := Lib.hid (fun W hb => (hb.block _ (by rw [← HW13.out, setAll_size]; exact (Array.getElem?_eq_some_iff.1 (HX2_0.out W12 HB0_12.out)).1)).trans (by rw [← HW13.out]; exact (setAll_other (NE_9_16_10.out)).trans (HX2_0.out W12 HB0_12.out)))
    have HX11_13 : Hid (∀ W, Below W13.heap.size W13 W → W.heap[w.heap.size + 1 + 1 + 1]? = some (.cells #[.int .i64 bl, .int .i64 bs, .int .i64 bn] 27 (0, 0))) := Lib.hid (fun W hb => (hb.block _ (by rw [← HW13.out, setAll_size]; exact (Array.getElem?_eq_some_iff.1 (HX3_0.out W12 HB0_12.out)).1)).trans (by rw [← HW13.out]; exact (setAll_other (NE_9_16_11.out)).trans (HX3_0.out W12 HB0_12.out)))
    have HX14_13 : Hid (∀ W, Below W13.heap.size W13 W → W.heap[W3.heap.size]? = some (.cells #[.int .i64 (cp + cb), .int .i64 (cs - cp), .int .i64 cn] 27 (0, 0))) := Lib.hid (fun W hb => (hb.block _ (by rw [← HW13.out, setAll_size]; exact (Array.getElem?_eq_some_iff.1 (HX14_4.out W12 HB4_12.out)).1)).trans (by rw [← HW13.out]; exact (setAll_other (NE_9_16_14.out)).trans (HX14_4.out W12 HB4_12.out)))
    have HX16_13 : Hid (∀ W, Below W13.heap.size W13 W → W.heap[W8.heap.size]? = some (.cells #[.int .i64 dp2, .int .i64 db2, .int .i64 ds2, .int .i64 dn2] 23 (0, 0))) := Lib.hid (fun W hb => (hb.block _ (by rw [← HW13.out, setAll_size]; exact (Array.getElem?_eq_some_iff.1 (HX16_9.out W12 HB9_12.out)).1)).trans (by rw [← HW13.out]; exact setAll_self hwh rfl))
    have HX18_13 : Hid (∀ W, Below W13.heap.size W13 W → W.heap[W10.heap.size]? = some (.cells #[.int .i64 dp1, .int .i64 db1, .int .i64 ds1, .int .i64 dn1] 23 (0, 0))) := Lib.hid (fun W hb => (hb.block _ (by rw [← HW13.out, setAll_size]; exact (Array.getElem?_eq_some_iff.1 (HX18_11.out W12 HB11_12.out)).1)).trans (by rw [← HW13.out]; exact (setAll_other (Ne.symm NE_11_18_16.out)).trans (HX18_11.out W12 HB11_12.out)))
    clear hwh
    obtain ⟨k6_0, k6_1, k6_2, k6_3⟩ := cells4 (HX6_13.out W13 (Below.refl _ _))
    obtain ⟨k7_0, k7_1, k7_2, k7_3, k7_4, k7_5, k7_6, k7_7, k7_8, k7_9, k7_10, k7_11⟩ := order.cells12 (HX7_13.out W13 (Below.refl _ _))
    go_wp2_with fail
    refine Calls.mono (rgo_is cp cb cs cn i a y d q p f ph m r v g HF.out HFO.out HD2.out _) ?_
    rintro e14 W14 ⟨rfl, hb⟩
    have HBw14 : Hid (Below w.heap.size w W14) := Lib.hid (HBw13.out.trans ((hb : Below W13.heap.size W13 W14).mono HBw13.out.size))
    have HB13_14 : Hid (Below W13.heap.size W13 W14) := Lib.hid (hb)
    clear hb
    clear k6_0 k6_1 k6_2 k6_3 k7_0 k7_1 k7_2 k7_3 k7_4 k7_5 k7_6 k7_7 k7_8 k7_9 k7_10 k7_11
    have hwh : World.whole W14 (W10.heap.size) 4 23 := whole_of (HX18_13.out W14 HB13_14.out) rfl
    go_upto_region 13 with (refine wpList_store_whole 23 (.tmp 18) (.tmp 89) (W10.heap.size) 4 _ 23 (by rfl) (by rfl) hwh (by rfl) (by kernel_rfl) (by kernel_rfl) ?_)
    obtain ⟨W15, HW15⟩ : ∃ W, Hid (World.setAll W14 (W10.heap.size) #[.int .i64 dp2, .int .i64 db2, .int .i64 ds2, .int .i64 dn2] = W) := ⟨_, Lib.hid rfl⟩
    rw [HW15.out]
    have HBw15 : Hid (Below w.heap.size w W15) := Lib.hid (by rw [← HW15.out]; exact setAll_below HBw14.out (LE_11.out))
    have HX6_15 : Hid (∀ W, Below W15.heap.size W15 W → W.heap[w.heap.size]? = some (.cells #[.int .i64 cp, .int .i64 cb, .int .i64 cs, .int .i64 cn] 23 (0, 0))) := Lib.hid (fun W hb => (hb.block _ (by rw [← HW15.out, setAll_size]; exact (Array.getElem?_eq_some_iff.1 (HX6_13.out W14 HB13_14.out)).1)).trans (by rw [← HW15.out]; exact (setAll_other (NE_11_18_6.out)).trans (HX6_13.out W14 HB13_14.out)))
    have HX7_15 : Hid (∀ W, Below W15.heap.size W15 W → W.heap[w.heap.size + 1]? = some (.cells #[.int .i64 i, .int .i64 a, .int .i64 y, .int .i64 d, .int .i64 q, .int .i64 p, .int .i64 f, .int .i64 ph, .int .i64 m, .int .i64 r, .int .i64 v, .bool g] 25 (0, 0))) := Lib.hid (fun W hb => (hb.block _ (by rw [← HW15.out, setAll_size]; exact (Array.getElem?_eq_some_iff.1 (HX7_13.out W14 HB13_14.out)).1)).trans (by rw [← HW15.out]; exact (setAll_other (NE_11_18_7.out)).trans (HX7_13.out W14 HB13_14.out)))
    have HX10_15 : Hid (∀ W, Below W15.heap.size W15 W → W.heap[w.heap.size + 1 + 1]? = some (.cells #[.int .i64 al, .int .i64 as_, .int .i64 an] 27 (0, 0))) := Lib.hid (fun W hb => (hb.block _ (by rw [← HW15.out, setAll_size]; exact (Array.getElem?_eq_some_iff.1 (HX10_13.out W14 HB13_14.out)).1)).trans (by rw [← HW15.out]; exact (setAll_other (NE_11_18_10.out)).trans (HX10_13.out W14 HB13_14.out)))
    have HX11_15 : Hid (∀ W, Below W15.heap.size W15 W → W.heap[w.heap.size + 1 + 1 + 1]? = some (.cells #[.int .i64 bl, .int .i64 bs, .int .i64 bn] 27 (0, 0))) := Lib.hid (fun W hb => (hb.block _ (by rw [← HW15.out, setAll_size]; exact (Array.getElem?_eq_some_iff.1 (HX11_13.out W14 HB13_14.out)).1)).trans (by rw [← HW15.out]; exact (setAll_other (NE_11_18_11.out)).trans (HX11_13.out W14 HB13_14.out)))
    have HX14_15 : Hid (∀ W, Below W15.heap.size W15 W → W.heap[W3.heap.size]? = some (.cells #[.int .i64 (cp + cb), .int .i64 (cs - cp), .int .i64 cn] 27 (0, 0))) := Lib.hid (fun W hb => (hb.block _ (by rw [← HW15.out, setAll_size]; exact (Array.getElem?_eq_some_iff.1 (HX14_13.out W14 HB13_14.out)).1)).trans (by rw [← HW15.out]; exact (setAll_other (NE_11_18_14.out)).trans (HX14_13.out W14 HB13_14.out)))
    have HX16_15 : Hid (∀ W, Below W15.heap.size W15 W → W.heap[W8.heap.size]? = some (.cells #[.int .i64 dp2, .int .i64 db2, .int .i64 ds2, .int .i64 dn2] 23 (0, 0))) := Lib.hid (fun W hb => (hb.block _ (by rw [← HW15.out, setAll_size]; exact (Array.getElem?_eq_some_iff.1 (HX16_13.out W14 HB13_14.out)).1)).trans (by rw [← HW15.out]; exact (setAll_other (NE_11_18_16.out)).trans (HX16_13.out W14 HB13_14.out)))
    have HX18_15 : Hid (∀ W, Below W15.heap.size W15 W → W.heap[W10.heap.size]? = some (.cells #[.int .i64 dp2, .int .i64 db2, .int .i64 ds2, .int .i64 dn2] 23 (0, 0))) := Lib.hid (fun W hb => (hb.block _ (by rw [← HW15.out, setAll_size]; exact (Array.getElem?_eq_some_iff.1 (HX18_13.out W14 HB13_14.out)).1)).trans (by rw [← HW15.out]; exact setAll_self hwh rfl))
    clear hwh
    have heq9 : ∀ W, (Op.equalIn 10000 23 (.agg #[.int .i64 dp2, .int .i64 db2, .int .i64 ds2, .int .i64 dn2]) (.agg #[.int .i64 dp2, .int .i64 db2, .int .i64 ds2, .int .i64 dn2])).run Try.prog W = .ok true W := fun W => eq4_of rfl rfl HF2.out HF2.out (decide_eq_true rfl) W
    obtain ⟨⟨⟨dp3, db3, ds3, dn3⟩, e3⟩, hh⟩ : ∃ x, did ⟨cp, cb, cs, cn⟩ a2 a3 = x := ⟨_, rfl⟩
    have HD3 := Lib.hid hh
    have HF3 : Hid ((⟨dp3, db3, ds3, dn3⟩ : Ce).fine) := Lib.hid (did_fine HF.out hh)
    clear hh
    obtain ⟨k16_0, k16_1, k16_2, k16_3⟩ := cells4 (HX16_15.out W15 (Below.refl _ _))
    obtain ⟨k18_0, k18_1, k18_2, k18_3⟩ := cells4 (HX18_15.out W15 (Below.refl _ _))
    obtain ⟨k6_0, k6_1, k6_2, k6_3⟩ := cells4 (HX6_15.out W15 (Below.refl _ _))
    go_wp2_with fail
    refine Calls.mono (did_is cp cb cs cn a2 a3 HF.out HS.out HQ.out HD3.out _) ?_
    rintro e16 W16 ⟨rfl, hb⟩
    have HBw16 : Hid (Below w.heap.size w W16) := Lib.hid (HBw15.out.trans ((hb : Below W15.heap.size W15 W16).mono HBw15.out.size))
    have HB15_16 : Hid (Below W15.heap.size W15 W16) := Lib.hid (hb)
    clear hb
    clear k16_0 k16_1 k16_2 k16_3 k18_0 k18_1 k18_2 k18_3 k6_0 k6_1 k6_2 k6_3
    have hwh : World.whole W16 (W8.heap.size) 4 23 := whole_of (HX16_15.out W16 HB15_16.out) rfl
    go_upto_region 16 with (refine wpList_store_whole 23 (.tmp 16) (.tmp 104) (W8.heap.size) 4 _ 23 (by rfl) (by rfl) hwh (by rfl) (by kernel_rfl) (by kernel_rfl) ?_)
    obtain ⟨W17, HW17⟩ : ∃ W, Hid (World.setAll W16 (W8.heap.size) #[.int .i64 dp3, .int .i64 db3, .int .i64 ds3, .int .i64 dn3] = W) := ⟨_, Lib.hid rfl⟩
    rw [HW17.out]
    have HBw17 : Hid (Below w.heap.size w W17) := Lib.hid (by rw [← HW17.out]; exact setAll_below HBw16.out (LE_9.out))
    have HX6_17 : Hid (∀ W, Below W17.heap.size W17 W → W.heap[w.heap.size]? = some (.cells #[.int .i64 cp, .int .i64 cb, .int .i64 cs, .int .i64 cn] 23 (0, 0))) := Lib.hid (fun W hb => (hb.block _ (by rw [← HW17.out, setAll_size]; exact (Array.getElem?_eq_some_iff.1 (HX6_15.out W16 HB15_16.out)).1)).trans (by rw [← HW17.out]; exact (setAll_other (NE_9_16_6.out)).trans (HX6_15.out W16 HB15_16.out)))
    have HX7_17 : Hid (∀ W, Below W17.heap.size W17 W → W.heap[w.heap.size + 1]? = some (.cells #[.int .i64 i, .int .i64 a, .int .i64 y, .int .i64 d, .int .i64 q, .int .i64 p, .int .i64 f, .int .i64 ph, .int .i64 m, .int .i64 r, .int .i64 v, .bool g] 25 (0, 0))) := Lib.hid (fun W hb => (hb.block _ (by rw [← HW17.out, setAll_size]; exact (Array.getElem?_eq_some_iff.1 (HX7_15.out W16 HB15_16.out)).1)).trans (by rw [← HW17.out]; exact (setAll_other (NE_9_16_7.out)).trans (HX7_15.out W16 HB15_16.out)))
    have HX10_17 : Hid (∀ W, Below W17.heap.size W17 W → W.heap[w.heap.size + 1 + 1]? = some (.cells #[.int .i64 al, .int .i64 as_, .int .i64 an] 27 (0, 0))) := Lib.hid (fun W hb => (hb.block _ (by rw [← HW17.out, setAll_size]; exact (Array.getElem?_eq_some_iff.1 (HX10_15.out W16 HB15_16.out)).1)).trans (by rw [← HW17.out]; exact (setAll_other (NE_9_16_10.out)).trans (HX10_15.out W16 HB15_16.out)))
    have HX11_17 : Hid (∀ W, Below W17.heap.size W17 W → W.heap[w.heap.size + 1 + 1 + 1]? = some (.cells #[.int .i64 bl, .int .i64 bs, .int .i64 bn] 27 (0, 0))) := Lib.hid (fun W hb => (hb.block _ (by rw [← HW17.out, setAll_size]; exact (Array.getElem?_eq_some_iff.1 (HX11_15.out W16 HB15_16.out)).1)).trans (by rw [← HW17.out]; exact (setAll_other (NE_9_16_11.out)).trans (HX11_15.out W16 HB15_16.out)))
    have HX14_17 : Hid (∀ W, Below W17.heap.size W17 W → W.heap[W3.heap.size]? = some (.cells #[.int .i64 (cp + cb), .int .i64 (cs - cp), .int .i64 cn] 27 (0, 0))) := Lib.hid (fun W hb => (hb.block _ (by rw [← HW17.out, setAll_size]; exact (Array.getElem?_eq_some_iff.1 (HX14_15.out W16 HB15_16.out)).1)).trans (by rw [← HW17.out]; exact (setAll_other (NE_9_16_14.out)).trans (HX14_15.out W16 HB15_16.out)))
    have HX16_17 : Hid (∀ W, Below W17.heap.size W17 W → W.heap[W8.heap.size]? = some (.cells #[.int .i64 dp3, .int .i64 db3, .int .i64 ds3, .int .i64 dn3] 23 (0, 0))) := Lib.hid (fun W hb => (hb.block _ (by rw [← HW17.out, setAll_size]; exact (Array.getElem?_eq_some_iff.1 (HX16_15.out W16 HB15_16.out)).1)).trans (by rw [← HW17.out]; exact setAll_self hwh rfl))
    have HX18_17 : Hid (∀ W, Below W17.heap.size W17 W → W.heap[W10.heap.size]? = some (.cells #[.int .i64 dp2, .int .i64 db2, .int .i64 ds2, .int .i64 dn2] 23 (0, 0))) := Lib.hid (fun W hb => (hb.block _ (by rw [← HW17.out, setAll_size]; exact (Array.getElem?_eq_some_iff.1 (HX18_15.out W16 HB15_16.out)).1)).trans (by rw [← HW17.out]; exact (setAll_other (Ne.symm NE_11_18_16.out)).trans (HX18_15.out W16 HB15_16.out)))
    clear hwh
    obtain ⟨k6_0, k6_1, k6_2, k6_3⟩ := cells4 (HX6_17.out W17 (Below.refl _ _))
    go_wp2_with fail
    refine Calls.mono (rdid_is cp cb cs cn a2 a3 HF.out HQ.out HD3.out _) ?_
    rintro e18 W18 ⟨rfl, hb⟩
    have HBw18 : Hid (Below w.heap.size w W18) := Lib.hid (HBw17.out.trans ((hb : Below W17.heap.size W17 W18).mono HBw17.out.size))
    have HB17_18 : Hid (Below W17.heap.size W17 W18) := Lib.hid (hb)
    clear hb
    clear k6_0 k6_1 k6_2 k6_3
    have hwh : World.whole W18 (W10.heap.size) 4 23 := whole_of (HX18_17.out W18 HB17_18.out) rfl
    go_upto_region 17 with (refine wpList_store_whole 23 (.tmp 18) (.tmp 111) (W10.heap.size) 4 _ 23 (by rfl) (by rfl) hwh (by rfl) (by kernel_rfl) (by kernel_rfl) ?_)
    obtain ⟨W19, HW19⟩ : ∃ W, Hid (World.setAll W18 (W10.heap.size) #[.int .i64 dp3, .int .i64 db3, .int .i64 ds3, .int .i64 dn3] = W) := ⟨_, Lib.hid rfl⟩
    rw [HW19.out]
    have HBw19 : Hid (Below w.heap.size w W19) := Lib.hid (by rw [← HW19.out]; exact setAll_below HBw18.out (LE_11.out))
    have HX6_19 : Hid (∀ W, Below W19.heap.size W19 W → W.heap[w.heap.size]? = some (.cells #[.int .i64 cp, .int .i64 cb, .int .i64 cs, .int .i64 cn] 23 (0, 0))) := Lib.hid (fun W hb => (hb.block _ (by rw [← HW19.out, setAll_size]; exact (Array.getElem?_eq_some_iff.1 (HX6_17.out W18 HB17_18.out)).1)).trans (by rw [← HW19.out]; exact (setAll_other (NE_11_18_6.out)).trans (HX6_17.out W18 HB17_18.out)))
    have HX7_19 : Hid (∀ W, Below W19.heap.size W19 W → W.heap[w.heap.size + 1]? = some (.cells #[.int .i64 i, .int .i64 a, .int .i64 y, .int .i64 d, .int .i64 q, .int .i64 p, .int .i64 f, .int .i64 ph, .int .i64 m, .int .i64 r, .int .i64 v, .bool g] 25 (0, 0))) := Lib.hid (fun W hb => (hb.block _ (by rw [← HW19.out, setAll_size]; exact (Array.getElem?_eq_some_iff.1 (HX7_17.out W18 HB17_18.out)).1)).trans (by rw [← HW19.out]; exact (setAll_other (NE_11_18_7.out)).trans (HX7_17.out W18 HB17_18.out)))
    have HX10_19 : Hid (∀ W, Below W19.heap.size W19 W → W.heap[w.heap.size + 1 + 1]? = some (.cells #[.int .i64 al, .int .i64 as_, .int .i64 an] 27 (0, 0))) := Lib.hid (fun W hb => (hb.block _ (by rw [← HW19.out, setAll_size]; exact (Array.getElem?_eq_some_iff.1 (HX10_17.out W18 HB17_18.out)).1)).trans (by rw [← HW19.out]; exact (setAll_other (NE_11_18_10.out)).trans (HX10_17.out W18 HB17_18.out)))
    have HX11_19 : Hid (∀ W, Below W19.heap.size W19 W → W.heap[w.heap.size + 1 + 1 + 1]? = some (.cells #[.int .i64 bl, .int .i64 bs, .int .i64 bn] 27 (0, 0))) := Lib.hid (fun W hb => (hb.block _ (by rw [← HW19.out, setAll_size]; exact (Array.getElem?_eq_some_iff.1 (HX11_17.out W18 HB17_18.out)).1)).trans (by rw [← HW19.out]; exact (setAll_other (NE_11_18_11.out)).trans (HX11_17.out W18 HB17_18.out)))
    have HX14_19 : Hid (∀ W, Below W19.heap.size W19 W → W.heap[W3.heap.size]? = some (.cells #[.int .i64 (cp + cb), .int .i64 (cs - cp), .int .i64 cn] 27 (0, 0))) := Lib.hid (fun W hb => (hb.block _ (by rw [← HW19.out, setAll_size]; exact (Array.getElem?_eq_some_iff.1 (HX14_17.out W18 HB17_18.out)).1)).trans (by rw [← HW19.out]; exact (setAll_other (NE_11_18_14.out)).trans (HX14_17.out W18 HB17_18.out)))
    have HX16_19 : Hid (∀ W, Below W19.heap.size W19 W → W.heap[W8.heap.size]? = some (.cells #[.int .i64 dp3, .int .i64 db3, .int .i64 ds3, .int .i64 dn3] 23 (0, 0))) := Lib.hid (fun W hb => (hb.block _ (by rw [← HW19.out, setAll_size]; exact (Array.getElem?_eq_some_iff.1 (HX16_17.out W18 HB17_18.out)).1)).trans (by rw [← HW19.out]; exact (setAll_other (NE_11_18_16.out)).trans (HX16_17.out W18 HB17_18.out)))
    have HX18_19 : Hid (∀ W, Below W19.heap.size W19 W → W.heap[W10.heap.size]? = some (.cells #[.int .i64 dp3, .int .i64 db3, .int .i64 ds3, .int .i64 dn3] 23 (0, 0))) := Lib.hid (fun W hb => (hb.block _ (by rw [← HW19.out, setAll_size]; exact (Array.getElem?_eq_some_iff.1 (HX18_17.out W18 HB17_18.out)).1)).trans (by rw [← HW19.out]; exact setAll_self hwh rfl))
    clear hwh
    have heq10 : ∀ W, (Op.equalIn 10000 23 (.agg #[.int .i64 dp3, .int .i64 db3, .int .i64 ds3, .int .i64 dn3]) (.agg #[.int .i64 dp3, .int .i64 db3, .int .i64 ds3, .int .i64 dn3])).run Try.prog W = .ok true W := fun W => eq4_of rfl rfl HF3.out HF3.out (decide_eq_true rfl) W
    obtain ⟨cv11, HCv11⟩ : ∃ x, Hid (covers ⟨al, as_, an⟩ ⟨bl, bs, bn⟩ = x) := ⟨_, Lib.hid rfl⟩
    rcases cv11 with _ | _
    · go_upto_region 17 with fail
      refine wp_region_held_drew (S := fun W => Below W19.heap.size W19 W) (by kernel_rfl) (Below.refl _ _).drew (fun _ => ?_)
      obtain ⟨W20, hW20⟩ : ∃ x, x = W19.drew := ⟨_, rfl⟩
      rw [← hW20]
      have HBw20 : Hid (Below w.heap.size w W20) := Lib.hid (HBw19.out.trans ((by rw [hW20]; exact (Below.refl _ _).drew : Below W19.heap.size W19 W20).mono HBw19.out.size))
      have HB19_20 : Hid (Below W19.heap.size W19 W20) := Lib.hid (by rw [hW20]; exact (Below.refl _ _).drew)
      clear hW20
      refine wpAnyH_take (i := 0) (v := .agg #[.int .i64 dp3, .int .i64 db3, .int .i64 ds3, .int .i64 dn3]) rfl (by kernel_rfl) (by kernel_rfl) (by kernel_rfl) (fun _ _ _ h => h) (Or.inl ⟨by kernel_rfl, ?h0⟩) HB19_20.out ?_
      case h0 => (intro WX hWX; obtain ⟨y0, y1, y2, y3⟩ := cells4 (HX16_19.out WX (show Below W19.heap.size W19 WX from hWX)); go_simp)
      go_simp
      refine wpAnyH_take (i := 1) (v := .agg #[.int .i64 dp3, .int .i64 db3, .int .i64 ds3, .int .i64 dn3]) rfl (by kernel_rfl) (by kernel_rfl) (by kernel_rfl) (fun _ _ _ h => h) (Or.inl ⟨by kernel_rfl, ?h1⟩) HB19_20.out ?_
      case h1 => (intro WX hWX; obtain ⟨y0, y1, y2, y3⟩ := cells4 (HX18_19.out WX (show Below W19.heap.size W19 WX from hWX)); go_simp)
      go_simp
      refine wpAnyH_take (i := 2) (v := .bool true) rfl (by kernel_rfl) (by kernel_rfl) (by kernel_rfl) (fun _ _ _ h => h) (Or.inl ⟨by kernel_rfl, ?h2⟩) HB19_20.out ?_
      case h2 => (intro WX hWX; go_simp)
      go_simp
      refine wpAnyH_take (i := 3) (v := .bool true) rfl (by kernel_rfl) (by kernel_rfl) (by kernel_rfl) (fun _ _ _ h => h) (Or.inl ⟨by kernel_rfl, ?h3⟩) HB19_20.out ?_
      case h3 => (intro WX hWX; go_simp)
      go_simp
      refine wpAnyH_take (i := 4) (v := .int .i64 e3) rfl (by kernel_rfl) (by kernel_rfl) (by kernel_rfl) (fun _ _ _ h => h) (Or.inl ⟨by kernel_rfl, ?h4⟩) HB19_20.out ?_
      case h4 => (intro WX hWX; go_simp)
      go_simp
      refine wpAnyH_take (i := 5) (v := .int .i64 e3) rfl (by kernel_rfl) (by kernel_rfl) (by kernel_rfl) (fun _ _ _ h => h) (Or.inl ⟨by kernel_rfl, ?h5⟩) HB19_20.out ?_
      case h5 => (intro WX hWX; go_simp)
      go_simp
      refine wpAnyH_take (i := 6) (v := .bool true) rfl (by kernel_rfl) (by kernel_rfl) (by kernel_rfl) (fun _ _ _ h => h) (Or.inl ⟨by kernel_rfl, ?h6⟩) HB19_20.out ?_
      case h6 => (intro WX hWX; go_simp)
      go_simp
      refine wpAnyH_take (i := 7) (v := .bool true) rfl (by kernel_rfl) (by kernel_rfl) (by kernel_rfl) (fun _ _ _ h => h) (Or.inl ⟨by kernel_rfl, ?h7⟩) HB19_20.out ?_
      case h7 => (intro WX hWX; go_simp)
      go_simp
      refine wpAnyH_take (i := 8) (v := .bool true) rfl (by kernel_rfl) (by kernel_rfl) (by kernel_rfl) (fun _ _ _ h => h) (Or.inl ⟨by kernel_rfl, ?h8⟩) HB19_20.out ?_
      case h8 => (intro WX hWX; go_simp)
      go_simp
      refine wpAnyH_take (i := 9) (v := .agg #[.int .i64 al, .int .i64 as_, .int .i64 an]) rfl (by kernel_rfl) (by kernel_rfl) (by kernel_rfl) (fun _ _ _ h => h) (Or.inl ⟨by kernel_rfl, ?h9⟩) HB19_20.out ?_
      case h9 => (intro WX hWX; obtain ⟨y0, y1, y2⟩ := cells3 (HX10_19.out WX (show Below W19.heap.size W19 WX from hWX)); go_simp)
      go_simp
      refine wpAnyH_take (i := 10) (v := .agg #[.int .i64 bl, .int .i64 bs, .int .i64 bn]) rfl (by kernel_rfl) (by kernel_rfl) (by kernel_rfl) (fun _ _ _ h => h) (Or.inl ⟨by kernel_rfl, ?h10⟩) HB19_20.out ?_
      case h10 => (intro WX hWX; obtain ⟨y0, y1, y2⟩ := cells3 (HX11_19.out WX (show Below W19.heap.size W19 WX from hWX)); go_simp)
      go_simp
      refine wpAnyH_take (i := 12) (v := .agg #[.int .i64 al, .int .i64 as_, .int .i64 an]) rfl (by kernel_rfl) (by kernel_rfl) (by kernel_rfl) (fun _ _ _ h => h) (Or.inl ⟨by kernel_rfl, ?h12⟩) HB19_20.out ?_
      case h12 => (intro WX hWX; obtain ⟨y0, y1, y2⟩ := cells3 (HX10_19.out WX (show Below W19.heap.size W19 WX from hWX)); go_simp)
      go_simp
      refine wpAnyH_take (i := 13) (v := .agg #[.int .i64 bl, .int .i64 bs, .int .i64 bn]) rfl (by kernel_rfl) (by kernel_rfl) (by kernel_rfl) (fun _ _ _ h => h) (Or.inl ⟨by kernel_rfl, ?h13⟩) HB19_20.out ?_
      case h13 => (intro WX hWX; obtain ⟨y0, y1, y2⟩ := cells3 (HX11_19.out WX (show Below W19.heap.size W19 WX from hWX)); go_simp)
      go_simp
      refine wpAnyH_ready (rs := [11]) (by kernel_rfl) (by simp) ?_
      refine AllReadyH.cons rfl (fun K hK => ?_) AllReadyH.nil
      go_simp
      go_wp2_with (refine Calls.mono (covers_is al as_ an bl bs bn HCv11.out _) ?_; rintro e21 W21 ⟨rfl, hb⟩)
      have HBw21 : Hid (Below w.heap.size w W21) := Lib.hid (HBw20.out.trans ((hb : Below W20.heap.size W20 W21).mono HBw20.out.size))
      have HB19_21 : Hid (Below W19.heap.size W19 W21) := Lib.hid (HB19_20.out.trans ((hb : Below W20.heap.size W20 W21).mono HB19_20.out.size))
      have HB20_21 : Hid (Below W20.heap.size W20 W21) := Lib.hid (hb)
      clear hb
      refine hK.out _ _ HB19_21.out (fun _ => ?_)
      clear hK K
      go_simp
      refine wpAnyH_ready (rs := [14]) (by kernel_rfl) (by simp) ?_
      refine AllReadyH.cons rfl (fun K hK => ?_) AllReadyH.nil
      go_simp
      go_wp2_with (refine Calls.mono (rcovers_is al as_ an bl bs bn HCv11.out _) ?_; rintro e22 W22 ⟨rfl, hb⟩)
      have HBw22 : Hid (Below w.heap.size w W22) := Lib.hid (HBw21.out.trans ((hb : Below W21.heap.size W21 W22).mono HBw21.out.size))
      have HB19_22 : Hid (Below W19.heap.size W19 W22) := Lib.hid (HB19_21.out.trans ((hb : Below W21.heap.size W21 W22).mono HB19_21.out.size))
      have HB20_22 : Hid (Below W20.heap.size W20 W22) := Lib.hid (HB20_21.out.trans ((hb : Below W21.heap.size W21 W22).mono HB20_21.out.size))
      have HB21_22 : Hid (Below W21.heap.size W21 W22) := Lib.hid (hb)
      clear hb
      refine hK.out _ _ HB19_22.out (fun _ => ?_)
      clear hK K
      go_simp
      refine wpAnyH_take (i := 15) (v := .bool true) rfl (by kernel_rfl) (by kernel_rfl) (by kernel_rfl) (fun _ _ _ h => h) (Or.inl ⟨by kernel_rfl, ?h15⟩) HB19_22.out ?_
      case h15 => (intro WX hWX; go_simp)
      go_simp
      refine wpAnyH_take (i := 16) (v := .bool true) rfl (by kernel_rfl) (by kernel_rfl) (by kernel_rfl) (fun _ _ _ h => h) (Or.inl ⟨by kernel_rfl, ?h16⟩) HB19_22.out ?_
      case h16 => (intro WX hWX; go_simp)
      go_simp
      refine wpAnyH_take (i := 17) (v := .bool true) rfl (by kernel_rfl) (by kernel_rfl) (by kernel_rfl) (fun _ _ _ h => h) (Or.inl ⟨by kernel_rfl, ?h17⟩) HB19_22.out ?_
      case h17 => (intro WX hWX; go_simp)
      go_simp
      refine wpAnyH_done (by kernel_rfl) ?_ _
      go_wp2_with fail
      go_ret
      exact ⟨rec.retB (by first | rfl | (simp; done) | (simp; omega)), HBw22.out⟩
    · go_upto_region 17 with fail
      refine wp_region_held_drew (S := fun W => Below W19.heap.size W19 W) (by kernel_rfl) (Below.refl _ _).drew (fun _ => ?_)
      obtain ⟨W20, hW20⟩ : ∃ x, x = W19.drew := ⟨_, rfl⟩
      rw [← hW20]
      have HBw20 : Hid (Below w.heap.size w W20) := Lib.hid (HBw19.out.trans ((by rw [hW20]; exact (Below.refl _ _).drew : Below W19.heap.size W19 W20).mono HBw19.out.size))
      have HB19_20 : Hid (Below W19.heap.size W19 W20) := Lib.hid (by rw [hW20]; exact (Below.refl _ _).drew)
      clear hW20
      refine wpAnyH_take (i := 0) (v := .agg #[.int .i64 dp3, .int .i64 db3, .int .i64 ds3, .int .i64 dn3]) rfl (by kernel_rfl) (by kernel_rfl) (by kernel_rfl) (fun _ _ _ h => h) (Or.inl ⟨by kernel_rfl, ?h0⟩) HB19_20.out ?_
      case h0 => (intro WX hWX; obtain ⟨y0, y1, y2, y3⟩ := cells4 (HX16_19.out WX (show Below W19.heap.size W19 WX from hWX)); go_simp)
      go_simp
      refine wpAnyH_take (i := 1) (v := .agg #[.int .i64 dp3, .int .i64 db3, .int .i64 ds3, .int .i64 dn3]) rfl (by kernel_rfl) (by kernel_rfl) (by kernel_rfl) (fun _ _ _ h => h) (Or.inl ⟨by kernel_rfl, ?h1⟩) HB19_20.out ?_
      case h1 => (intro WX hWX; obtain ⟨y0, y1, y2, y3⟩ := cells4 (HX18_19.out WX (show Below W19.heap.size W19 WX from hWX)); go_simp)
      go_simp
      refine wpAnyH_take (i := 2) (v := .bool true) rfl (by kernel_rfl) (by kernel_rfl) (by kernel_rfl) (fun _ _ _ h => h) (Or.inl ⟨by kernel_rfl, ?h2⟩) HB19_20.out ?_
      case h2 => (intro WX hWX; go_simp)
      go_simp
      refine wpAnyH_take (i := 3) (v := .bool true) rfl (by kernel_rfl) (by kernel_rfl) (by kernel_rfl) (fun _ _ _ h => h) (Or.inl ⟨by kernel_rfl, ?h3⟩) HB19_20.out ?_
      case h3 => (intro WX hWX; go_simp)
      go_simp
      refine wpAnyH_take (i := 4) (v := .int .i64 e3) rfl (by kernel_rfl) (by kernel_rfl) (by kernel_rfl) (fun _ _ _ h => h) (Or.inl ⟨by kernel_rfl, ?h4⟩) HB19_20.out ?_
      case h4 => (intro WX hWX; go_simp)
      go_simp
      refine wpAnyH_take (i := 5) (v := .int .i64 e3) rfl (by kernel_rfl) (by kernel_rfl) (by kernel_rfl) (fun _ _ _ h => h) (Or.inl ⟨by kernel_rfl, ?h5⟩) HB19_20.out ?_
      case h5 => (intro WX hWX; go_simp)
      go_simp
      refine wpAnyH_take (i := 6) (v := .bool true) rfl (by kernel_rfl) (by kernel_rfl) (by kernel_rfl) (fun _ _ _ h => h) (Or.inl ⟨by kernel_rfl, ?h6⟩) HB19_20.out ?_
      case h6 => (intro WX hWX; go_simp)
      go_simp
      refine wpAnyH_take (i := 7) (v := .bool true) rfl (by kernel_rfl) (by kernel_rfl) (by kernel_rfl) (fun _ _ _ h => h) (Or.inl ⟨by kernel_rfl, ?h7⟩) HB19_20.out ?_
      case h7 => (intro WX hWX; go_simp)
      go_simp
      refine wpAnyH_take (i := 8) (v := .bool true) rfl (by kernel_rfl) (by kernel_rfl) (by kernel_rfl) (fun _ _ _ h => h) (Or.inl ⟨by kernel_rfl, ?h8⟩) HB19_20.out ?_
      case h8 => (intro WX hWX; go_simp)
      go_simp
      refine wpAnyH_take (i := 9) (v := .agg #[.int .i64 al, .int .i64 as_, .int .i64 an]) rfl (by kernel_rfl) (by kernel_rfl) (by kernel_rfl) (fun _ _ _ h => h) (Or.inl ⟨by kernel_rfl, ?h9⟩) HB19_20.out ?_
      case h9 => (intro WX hWX; obtain ⟨y0, y1, y2⟩ := cells3 (HX10_19.out WX (show Below W19.heap.size W19 WX from hWX)); go_simp)
      go_simp
      refine wpAnyH_take (i := 10) (v := .agg #[.int .i64 bl, .int .i64 bs, .int .i64 bn]) rfl (by kernel_rfl) (by kernel_rfl) (by kernel_rfl) (fun _ _ _ h => h) (Or.inl ⟨by kernel_rfl, ?h10⟩) HB19_20.out ?_
      case h10 => (intro WX hWX; obtain ⟨y0, y1, y2⟩ := cells3 (HX11_19.out WX (show Below W19.heap.size W19 WX from hWX)); go_simp)
      go_simp
      refine wpAnyH_take (i := 12) (v := .agg #[.int .i64 al, .int .i64 as_, .int .i64 an]) rfl (by kernel_rfl) (by kernel_rfl) (by kernel_rfl) (fun _ _ _ h => h) (Or.inl ⟨by kernel_rfl, ?h12⟩) HB19_20.out ?_
      case h12 => (intro WX hWX; obtain ⟨y0, y1, y2⟩ := cells3 (HX10_19.out WX (show Below W19.heap.size W19 WX from hWX)); go_simp)
      go_simp
      refine wpAnyH_take (i := 13) (v := .agg #[.int .i64 bl, .int .i64 bs, .int .i64 bn]) rfl (by kernel_rfl) (by kernel_rfl) (by kernel_rfl) (fun _ _ _ h => h) (Or.inl ⟨by kernel_rfl, ?h13⟩) HB19_20.out ?_
      case h13 => (intro WX hWX; obtain ⟨y0, y1, y2⟩ := cells3 (HX11_19.out WX (show Below W19.heap.size W19 WX from hWX)); go_simp)
      go_simp
      refine wpAnyH_ready (rs := [11]) (by kernel_rfl) (by simp) ?_
      refine AllReadyH.cons rfl (fun K hK => ?_) AllReadyH.nil
      go_simp
      go_wp2_with (refine Calls.mono (covers_is al as_ an bl bs bn HCv11.out _) ?_; rintro e21 W21 ⟨rfl, hb⟩)
      have HBw21 : Hid (Below w.heap.size w W21) := Lib.hid (HBw20.out.trans ((hb : Below W20.heap.size W20 W21).mono HBw20.out.size))
      have HB19_21 : Hid (Below W19.heap.size W19 W21) := Lib.hid (HB19_20.out.trans ((hb : Below W20.heap.size W20 W21).mono HB19_20.out.size))
      have HB20_21 : Hid (Below W20.heap.size W20 W21) := Lib.hid (hb)
      clear hb
      refine hK.out _ _ HB19_21.out (fun _ => ?_)
      clear hK K
      go_simp
      refine wpAnyH_ready (rs := [14]) (by kernel_rfl) (by simp) ?_
      refine AllReadyH.cons rfl (fun K hK => ?_) AllReadyH.nil
      go_simp
      go_wp2_with (refine Calls.mono (rcovers_is al as_ an bl bs bn HCv11.out _) ?_; rintro e22 W22 ⟨rfl, hb⟩)
      have HBw22 : Hid (Below w.heap.size w W22) := Lib.hid (HBw21.out.trans ((hb : Below W21.heap.size W21 W22).mono HBw21.out.size))
      have HB19_22 : Hid (Below W19.heap.size W19 W22) := Lib.hid (HB19_21.out.trans ((hb : Below W21.heap.size W21 W22).mono HB19_21.out.size))
      have HB20_22 : Hid (Below W20.heap.size W20 W22) := Lib.hid (HB20_21.out.trans ((hb : Below W21.heap.size W21 W22).mono HB20_21.out.size))
      have HB21_22 : Hid (Below W21.heap.size W21 W22) := Lib.hid (hb)
      clear hb
      refine hK.out _ _ HB19_22.out (fun _ => ?_)
      clear hK K
      go_simp
      refine wpAnyH_take (i := 15) (v := .bool true) rfl (by kernel_rfl) (by kernel_rfl) (by kernel_rfl) (fun _ _ _ h => h) (Or.inl ⟨by kernel_rfl, ?h15⟩) HB19_22.out ?_
      case h15 => (intro WX hWX; go_simp)
      go_simp
      refine wpAnyH_take (i := 16) (v := .bool true) rfl (by kernel_rfl) (by kernel_rfl) (by kernel_rfl) (fun _ _ _ h => h) (Or.inl ⟨by kernel_rfl, ?h16⟩) HB19_22.out ?_
      case h16 => (intro WX hWX; go_simp)
      go_simp
      refine wpAnyH_take (i := 17) (v := .bool true) rfl (by kernel_rfl) (by kernel_rfl) (by kernel_rfl) (fun _ _ _ h => h) (Or.inl ⟨by kernel_rfl, ?h17⟩) HB19_22.out ?_
      case h17 => (intro WX hWX; go_simp)
      go_simp
      refine wpAnyH_done (by kernel_rfl) ?_ _
      go_wp2_with fail
      go_ret
      exact ⟨rec.retB (by first | rfl | (simp; done) | (simp; omega)), HBw22.out⟩
  -- WALK ENDS

set_option maxRecDepth 100000 in
theorem lifted (os : Os) (started : os.Started) (H : Type) (enc : TypeId × Value → H) :
    ReturnsInHanded {} Try.checked os 3 .any (Rows.cellRightSpec.pre6 enc Try.prog Try.f3 Rows.cellRightRow.domain false) (Rows.cellRightSpec.post enc Try.prog Try.f3 false true false false) := by
  refine returnsInHanded_of_change (C := Try.checked) own started (by kernel_rfl) Try.func3
    (ChangeSpec.witness6 (enc := enc) (C := Try.checked) false ⟨#[], #[.agg #[.int .i64 0, .int .i64 0, .int .i64 0, .int .i64 0], .agg #[.int .i64 0, .int .i64 0, .int .i64 0, .int .i64 0, .int .i64 0, .int .i64 0, .int .i64 0, .int .i64 0, .int .i64 0, .int .i64 0, .int .i64 0, .bool false], .int .i64 0, .int .i64 0, .agg #[.int .i64 0, .int .i64 0, .int .i64 0], .agg #[.int .i64 0, .int .i64 0, .int .i64 0]], []⟩ 8 (by kernel_rfl) (by kernel_rfl) (by kernel_rfl) (by kernel_rfl)) ?_
  intro W base args ds gs before hval0 hW hcnd _
  have hval : ∀ (j : Nat) t v, Try.f3.params[j]? = some t → args[j]? = some v → Value.okWide Try.prog W .any base t v := hval0
  have hW' := hW
  obtain ⟨p, q, hA0, hV, rfl, hfz, hnd⟩ := hW
  have hA : DataW.TrodAll enc Try.prog W 0 (fun _ => true) true Try.f3.params.toList args.toList ds p := hA0
  rw [Try.params3] at hA hval
  obtain ⟨v0, vs0, d0, ds0, p0_, q0, hargs, rfl, rfl, h0, r0⟩ := trodAll_cons hA
  obtain ⟨v1, vs1, d1, ds1, p1_, q1, rfl, rfl, rfl, h1, r1⟩ := trodAll_cons r0
  obtain ⟨v2, vs2, d2, ds2, p2_, q2, rfl, rfl, rfl, h2, r2⟩ := trodAll_cons r1
  obtain ⟨v3, vs3, d3, ds3, p3_, q3, rfl, rfl, rfl, h3, r3⟩ := trodAll_cons r2
  obtain ⟨v4, vs4, d4, ds4, p4_, q4, rfl, rfl, rfl, h4, r4⟩ := trodAll_cons r3
  obtain ⟨v5, vs5, d5, ds5, p5_, q5, rfl, rfl, rfl, h5, r5⟩ := trodAll_cons r4
  obtain ⟨rfl, rfl, rfl⟩ := trodAll_nil r5
  obtain rfl : args = #[v0, v1, v2, v3, v4, v5] := by cases args; simp_all
  obtain ⟨rfl, rfl⟩ := trodVars_none hV
  obtain ⟨cs0, rfl, hsz0⟩ := okWide_struct Try.underlying23 (hval 0 23 v0 rfl rfl)
  have k0 := h0
  have lt0 : ∀ x ∈ p0_, x.block < W.heap.size := by obtain ⟨m, hm⟩ := k0; exact DataW.trod_lt m _ _ _ hm
  obtain ⟨x0, w0⟩ := of_arg of_cell k0
  obtain ⟨cs1, rfl, hsz1⟩ := okWide_struct Try.underlying25 (hval 1 25 v1 rfl rfl)
  have k1 := h1
  have lt1 : ∀ x ∈ p1_, x.block < W.heap.size := by obtain ⟨m, hm⟩ := k1; exact DataW.trod_lt m _ _ _ hm
  obtain ⟨x1, w1⟩ := of_arg of_order k1
  obtain ⟨a2, rfl, rfl, rfl, w2⟩ := open_int Try.underlying3 (hval 2 3 v2 rfl rfl) h2
  obtain ⟨a3, rfl, rfl, rfl, w3⟩ := open_int Try.underlying2 (hval 3 2 v3 rfl rfl) h3
  obtain ⟨cs4, rfl, hsz4⟩ := okWide_struct Try.underlying27 (hval 4 27 v4 rfl rfl)
  have k4 := h4
  have lt4 : ∀ x ∈ p4_, x.block < W.heap.size := by obtain ⟨m, hm⟩ := k4; exact DataW.trod_lt m _ _ _ hm
  obtain ⟨x4, w4⟩ := of_arg of_expo k4
  obtain ⟨cs5, rfl, hsz5⟩ := okWide_struct Try.underlying27 (hval 5 27 v5 rfl rfl)
  have k5 := h5
  have lt5 : ∀ x ∈ p5_, x.block < W.heap.size := by obtain ⟨m, hm⟩ := k5; exact DataW.trod_lt m _ _ _ hm
  obtain ⟨x5, w5⟩ := of_arg of_expo k5
  clear hA0 hval0
  refine (walk cs0 x0 cs1 x1 a2 a3 cs4 x4 cs5 x5 W w0 w1 w2 w3 w4 w5).mono fun e W' ⟨he, bel⟩ => ?_
  subst he
  exact ⟨_, rfl, _, _, _, [], _, [], hW', trodAll_mk1 (shut_bool Try.underlying4 _), (trodAll_cons_mk (Below.trod laidOut (by kernel_rfl) (of_decide_eq_true (by kernel_rfl)) k0 bel lt0) (trodAll_cons_mk (Below.trod laidOut (by kernel_rfl) (of_decide_eq_true (by kernel_rfl)) k1 bel lt1) (trodAll_cons_mk (shut_int Try.underlying3 w2) (trodAll_cons_mk (shut_int Try.underlying2 w3) (trodAll_cons_mk (Below.trod laidOut (by kernel_rfl) (of_decide_eq_true (by kernel_rfl)) k4 bel lt4) (trodAll_cons_mk (Below.trod laidOut (by kernel_rfl) (of_decide_eq_true (by kernel_rfl)) k5 bel lt5) trodAll_mk0)))))), rfl, bel.frame _, fun h => by cases h⟩

theorem over : Rows.cellRightRow.holds Try.pinned (OpenSpec.ofChange Rows.cellRightSpec) :=
  OpenClaim.holds_of_wide 3 Try.f3 rfl rfl rfl rfl rfl rfl rfl ⟨rfl, rfl, rfl, rfl, rfl⟩ rfl rfl rfl rfl rfl (by kernel_rfl) Try.func3 (by kernel_rfl)
    (of_decide_eq_true (by kernel_rfl)) (by unfold Func.isWrapper; first | (rw [if_pos (by decide +kernel)]; kernel_rfl) | (rw [if_neg (by decide +kernel)]; exact ⟨rfl, rfl⟩))
    (fun os started H enc _ => lifted os started H enc)

theorem proved : Rows.CellRightSaid := over
#print axioms proved
end Go.Proofs.Ytkpapjdlpjjmbaa.cellRight
