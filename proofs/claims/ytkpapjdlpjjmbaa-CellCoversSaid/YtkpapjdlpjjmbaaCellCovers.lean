/-
  PROVED: the law CellCovers answers true at every input, and leaves what it was given as it was.
  CONDITIONS: none.
-/
import Derived.Test.YtkpapjdlpjjmbaaRows
import Derived.WalkKit
import Derived.ProofKit
import Derived.OpenShut
import Derived.ShutString
import Derived.ChangeOld
import Derived.Below
import Derived.Test.YtkpapjdlpjjmbaaCellMath2
import Derived.Deep.RegionHeld
import Derived.Deep.DrawnRows
import Derived.Deep.DeepCutAuto
import Derived.Test.YtkpapjdlpjjmbaaAwake08
import Derived.Test.YtkpapjdlpjjmbaaOrdEq
import Derived.Test.YtkpapjdlpjjmbaaCellEq
import Derived.Test.YtkpapjdlpjjmbaaRead
namespace Go.Proofs.Ytkpapjdlpjjmbaa.cellCovers
open Go.ChangeShapes Go.WideShapes Go.ChangeAt Go.RowKit
open Go.ChangeMaps (open_string shut_string)
open Go.Proofs.Ytkpapjdlpjjmbaa Go.Proofs.Ytkpapjdlpjjmbaa.cell
open Go.Proofs.Ytkpapjdlpjjmbaa.order (eq_cases)
attribute [local go_sem] undef
attribute [local go_sem ↓] Go.wp_at_zero Go.wp_at_succ
set_option linter.unusedVariables false

theorem own : ownKnob Try.prog.godebug = none := by kernel_rfl
theorem laidOut : laidOutB Try.prog = true := by kernel_rfl

set_option maxHeartbeats 8000000 in
set_option maxRecDepth 100000 in
theorem walk (cs0 : Array Value) (x0 : ExpoD) (cs1 : Array Value) (x1 : ExpoD) (cs2 : Array Value) (x2 : ExpoD) (w : World) (w0 : rdExpo w (Lt w.heap.size) cs0.toList x0) (w1 : rdExpo w (Lt w.heap.size) cs1.toList x1) (w2 : rdExpo w (Lt w.heap.size) cs2.toList x2) :
    Calls Try.prog 6 #[.agg cs0, .agg cs1, .agg cs2] w fun e w' => e = .returned (.bool true) ∧ Below w.heap.size w w' := by
  -- WALK BEGINS
  obtain ⟨hc0, hf0⟩ := w0
  obtain rfl : cs0 = cell.xc x0 := by apply Array.toList_inj.1; exact hc0
  clear hc0
  obtain ⟨al, as_, an⟩ := x0
  obtain ⟨hc1, hf1⟩ := w1
  obtain rfl : cs1 = cell.xc x1 := by apply Array.toList_inj.1; exact hc1
  clear hc1
  obtain ⟨bl, bs, bn⟩ := x1
  obtain ⟨hc2, hf2⟩ := w2
  obtain rfl : cs2 = cell.xc x2 := by apply Array.toList_inj.1; exact hc2
  clear hc2
  obtain ⟨cl, cs_, cn⟩ := x2
  show Calls Try.prog 6 #[.agg #[.int .i64 al, .int .i64 as_, .int .i64 an], .agg #[.int .i64 bl, .int .i64 bs, .int .i64 bn], .agg #[.int .i64 cl, .int .i64 cs_, .int .i64 cn]] w _
  obtain ⟨W0, HW0⟩ : ∃ W, Hid ((((w.alloc (.cells #[.int .i64 al, .int .i64 as_, .int .i64 an] 27)).alloc (.cells #[.int .i64 bl, .int .i64 bs, .int .i64 bn] 27)).alloc (.cells #[.int .i64 cl, .int .i64 cs_, .int .i64 cn] 27)) = W) := ⟨_, Lib.hid rfl⟩
  have HBw0 : Hid (Below w.heap.size w W0) := Lib.hid (by rw [← HW0.out]; exact (((Below.refl _ _).alloc (by simp) _).alloc (by simp; try omega) _).alloc (by simp; try omega) _)
  have HX0_0 : Hid (∀ W, Below W0.heap.size W0 W → W.heap[w.heap.size]? = some (.cells #[.int .i64 al, .int .i64 as_, .int .i64 an] 27 (0, 0))) := Lib.hid (fun W hb => (hb.block _ (by rw [← HW0.out]; simp; try omega)).trans (by rw [← HW0.out]; refine (Below.heap_alloc _ _ _ (by simp; try omega)).trans ?_; refine (Below.heap_alloc _ _ _ (by simp; try omega)).trans ?_; have := heap_alloc_new w (.cells #[.int .i64 al, .int .i64 as_, .int .i64 an] 27); exact this))
  have HX1_0 : Hid (∀ W, Below W0.heap.size W0 W → W.heap[w.heap.size + 1]? = some (.cells #[.int .i64 bl, .int .i64 bs, .int .i64 bn] 27 (0, 0))) := Lib.hid (fun W hb => (hb.block _ (by rw [← HW0.out]; simp; try omega)).trans (by rw [← HW0.out]; refine (Below.heap_alloc _ _ _ (by simp; try omega)).trans ?_; have := heap_alloc_new (w.alloc (.cells #[.int .i64 al, .int .i64 as_, .int .i64 an] 27)) (.cells #[.int .i64 bl, .int .i64 bs, .int .i64 bn] 27); simp only [World.size_alloc] at this; exact this))
  have HX2_0 : Hid (∀ W, Below W0.heap.size W0 W → W.heap[w.heap.size + 1 + 1]? = some (.cells #[.int .i64 cl, .int .i64 cs_, .int .i64 cn] 27 (0, 0))) := Lib.hid (fun W hb => (hb.block _ (by rw [← HW0.out]; simp; try omega)).trans (by rw [← HW0.out]; have := heap_alloc_new ((w.alloc (.cells #[.int .i64 al, .int .i64 as_, .int .i64 an] 27)).alloc (.cells #[.int .i64 bl, .int .i64 bs, .int .i64 bn] 27)) (.cells #[.int .i64 cl, .int .i64 cs_, .int .i64 cn] 27); simp only [World.size_alloc] at this; exact this))
  have HA := Lib.hid hf0
  have HB := Lib.hid hf1
  clear hf0 hf1 hf2
  go_enter Try.func6, Try.ntmps6
  go_upto_region 1 with fail
  rw [HW0.out]
  go_wp2_with fail
  refine Calls.mono (awake_any _) ?_
  rintro e1 W1 ⟨rfl, hb⟩
  have HBw1 : Hid (Below w.heap.size w W1) := Lib.hid (HBw0.out.trans ((hb : Below W0.heap.size W0 W1).mono HBw0.out.size))
  have HB0_1 : Hid (Below W0.heap.size W0 W1) := Lib.hid (hb)
  clear hb
  have HCs : Hid (covers ⟨al, as_, an⟩ ⟨al, as_, an⟩ = true) := Lib.hid (covers_iff.2 ⟨Int.le_refl _, Int.le_refl _, Int.le_refl _⟩)
  obtain ⟨cvab, HCvab⟩ : ∃ x, Hid (covers ⟨al, as_, an⟩ ⟨bl, bs, bn⟩ = x) := ⟨_, Lib.hid rfl⟩
  rcases cvab with _ | _
  · have heq1 : ∀ W, (Op.equalIn 10000 27 (.agg #[.int .i64 al, .int .i64 as_, .int .i64 an]) (.agg #[.int .i64 bl, .int .i64 bs, .int .i64 bn])).run Try.prog W = .ok false W := fun W => eq3_of rfl rfl HA.out HB.out (decide_eq_false (fun h => by have k := HCvab.out; rw [h, covers_self] at k; simp at k)) W
    go_upto_region 3 with fail
    refine wp_region_held_drew (S := fun W => Below W1.heap.size W1 W) (by kernel_rfl) (Below.refl _ _).drew (fun _ => ?_)
    obtain ⟨W2, hW2⟩ : ∃ x, x = W1.drew := ⟨_, rfl⟩
    rw [← hW2]
    have HBw2 : Hid (Below w.heap.size w W2) := Lib.hid (HBw1.out.trans ((by rw [hW2]; exact (Below.refl _ _).drew : Below W1.heap.size W1 W2).mono HBw1.out.size))
    have HB0_2 : Hid (Below W0.heap.size W0 W2) := Lib.hid (HB0_1.out.trans ((by rw [hW2]; exact (Below.refl _ _).drew : Below W1.heap.size W1 W2).mono HB0_1.out.size))
    have HB1_2 : Hid (Below W1.heap.size W1 W2) := Lib.hid (by rw [hW2]; exact (Below.refl _ _).drew)
    clear hW2
    refine wpAnyH_take (i := 0) (v := .agg #[.int .i64 al, .int .i64 as_, .int .i64 an]) rfl (by kernel_rfl) (by kernel_rfl) (by kernel_rfl) (fun _ _ _ h => h) (Or.inl ⟨by kernel_rfl, ?h0⟩) HB1_2.out ?_
    case h0 => (intro WX hWX; obtain ⟨y0, y1, y2⟩ := cells3 (HX0_0.out WX (HB0_1.out.trans ((show Below W1.heap.size W1 WX from hWX).mono HB0_1.out.size))); go_simp)
    go_simp
    refine wpAnyH_take (i := 1) (v := .agg #[.int .i64 al, .int .i64 as_, .int .i64 an]) rfl (by kernel_rfl) (by kernel_rfl) (by kernel_rfl) (fun _ _ _ h => h) (Or.inl ⟨by kernel_rfl, ?h1⟩) HB1_2.out ?_
    case h1 => (intro WX hWX; obtain ⟨y0, y1, y2⟩ := cells3 (HX0_0.out WX (HB0_1.out.trans ((show Below W1.heap.size W1 WX from hWX).mono HB0_1.out.size))); go_simp)
    go_simp
    refine wpAnyH_ready (rs := [2]) (by kernel_rfl) (by simp) ?_
    refine AllReadyH.cons rfl (fun K hK => ?_) AllReadyH.nil
    go_simp
    go_wp2_with (refine Calls.mono (covers_is al as_ an al as_ an HCs.out _) ?_; rintro e3 W3 ⟨rfl, hb⟩)
    have HBw3 : Hid (Below w.heap.size w W3) := Lib.hid (HBw2.out.trans ((hb : Below W2.heap.size W2 W3).mono HBw2.out.size))
    have HB0_3 : Hid (Below W0.heap.size W0 W3) := Lib.hid (HB0_2.out.trans ((hb : Below W2.heap.size W2 W3).mono HB0_2.out.size))
    have HB1_3 : Hid (Below W1.heap.size W1 W3) := Lib.hid (HB1_2.out.trans ((hb : Below W2.heap.size W2 W3).mono HB1_2.out.size))
    have HB2_3 : Hid (Below W2.heap.size W2 W3) := Lib.hid (hb)
    clear hb
    refine hK.out _ _ HB1_3.out (fun _ => ?_)
    clear hK K
    go_simp
    refine wpAnyH_take (i := 3) (v := .bool true) rfl (by kernel_rfl) (by kernel_rfl) (by kernel_rfl) (fun _ _ _ h => h) (Or.inl ⟨by kernel_rfl, ?h3⟩) HB1_3.out ?_
    case h3 => (intro WX hWX; go_simp)
    go_simp
    refine wpAnyH_take (i := 4) (v := .agg #[.int .i64 al, .int .i64 as_, .int .i64 an]) rfl (by kernel_rfl) (by kernel_rfl) (by kernel_rfl) (fun _ _ _ h => h) (Or.inl ⟨by kernel_rfl, ?h4⟩) HB1_3.out ?_
    case h4 => (intro WX hWX; obtain ⟨y0, y1, y2⟩ := cells3 (HX0_0.out WX (HB0_1.out.trans ((show Below W1.heap.size W1 WX from hWX).mono HB0_1.out.size))); go_simp)
    go_simp
    refine wpAnyH_take (i := 5) (v := .agg #[.int .i64 bl, .int .i64 bs, .int .i64 bn]) rfl (by kernel_rfl) (by kernel_rfl) (by kernel_rfl) (fun _ _ _ h => h) (Or.inl ⟨by kernel_rfl, ?h5⟩) HB1_3.out ?_
    case h5 => (intro WX hWX; obtain ⟨y0, y1, y2⟩ := cells3 (HX1_0.out WX (HB0_1.out.trans ((show Below W1.heap.size W1 WX from hWX).mono HB0_1.out.size))); go_simp)
    go_simp
    refine wpAnyH_ready (rs := [6]) (by kernel_rfl) (by simp) ?_
    refine AllReadyH.cons rfl (fun K hK => ?_) AllReadyH.nil
    go_simp
    go_wp2_with (refine Calls.mono (covers_is al as_ an bl bs bn HCvab.out _) ?_; rintro e4 W4 ⟨rfl, hb⟩)
    have HBw4 : Hid (Below w.heap.size w W4) := Lib.hid (HBw3.out.trans ((hb : Below W3.heap.size W3 W4).mono HBw3.out.size))
    have HB0_4 : Hid (Below W0.heap.size W0 W4) := Lib.hid (HB0_3.out.trans ((hb : Below W3.heap.size W3 W4).mono HB0_3.out.size))
    have HB1_4 : Hid (Below W1.heap.size W1 W4) := Lib.hid (HB1_3.out.trans ((hb : Below W3.heap.size W3 W4).mono HB1_3.out.size))
    have HB2_4 : Hid (Below W2.heap.size W2 W4) := Lib.hid (HB2_3.out.trans ((hb : Below W3.heap.size W3 W4).mono HB2_3.out.size))
    have HB3_4 : Hid (Below W3.heap.size W3 W4) := Lib.hid (hb)
    clear hb
    refine hK.out _ _ HB1_4.out (fun _ => ?_)
    clear hK K
    go_simp
    refine wpAnyH_take (i := 7) (v := .bool true) rfl (by kernel_rfl) (by kernel_rfl) (by kernel_rfl) (fun _ _ _ h => h) (Or.inl ⟨by kernel_rfl, ?h7⟩) HB1_4.out ?_
    case h7 => (intro WX hWX; go_simp)
    go_simp
    refine wpAnyH_take (i := 8) (v := .bool true) rfl (by kernel_rfl) (by kernel_rfl) (by kernel_rfl) (fun _ _ _ h => h) (Or.inl ⟨by kernel_rfl, ?h8⟩) HB1_4.out ?_
    case h8 => (intro WX hWX; go_simp)
    go_simp
    refine wpAnyH_take (i := 9) (v := undef) rfl (by kernel_rfl) (by kernel_rfl) (by kernel_rfl) (fun _ _ _ h => h) (Or.inr ⟨by kernel_rfl, rfl⟩) HB1_4.out ?_
    go_simp
    refine wpAnyH_take (i := 10) (v := undef) rfl (by kernel_rfl) (by kernel_rfl) (by kernel_rfl) (fun _ _ _ h => h) (Or.inr ⟨by kernel_rfl, rfl⟩) HB1_4.out ?_
    go_simp
    refine wpAnyH_take (i := 11) (v := undef) rfl (by kernel_rfl) (by kernel_rfl) (by kernel_rfl) (fun _ _ _ h => h) (Or.inr ⟨by kernel_rfl, rfl⟩) HB1_4.out ?_
    go_simp
    refine wpAnyH_take (i := 12) (v := undef) rfl (by kernel_rfl) (by kernel_rfl) (by kernel_rfl) (fun _ _ _ h => h) (Or.inr ⟨by kernel_rfl, rfl⟩) HB1_4.out ?_
    go_simp
    refine wpAnyH_take (i := 13) (v := .bool true) rfl (by kernel_rfl) (by kernel_rfl) (by kernel_rfl) (fun _ _ _ h => h) (Or.inl ⟨by kernel_rfl, ?h13⟩) HB1_4.out ?_
    case h13 => (intro WX hWX; go_simp)
    go_simp
    refine wpAnyH_take (i := 14) (v := .bool true) rfl (by kernel_rfl) (by kernel_rfl) (by kernel_rfl) (fun _ _ _ h => h) (Or.inl ⟨by kernel_rfl, ?h14⟩) HB1_4.out ?_
    case h14 => (intro WX hWX; go_simp)
    go_simp
    refine wpAnyH_take (i := 15) (v := undef) rfl (by kernel_rfl) (by kernel_rfl) (by kernel_rfl) (fun _ _ _ h => h) (Or.inr ⟨by kernel_rfl, rfl⟩) HB1_4.out ?_
    go_simp
    refine wpAnyH_take (i := 16) (v := undef) rfl (by kernel_rfl) (by kernel_rfl) (by kernel_rfl) (fun _ _ _ h => h) (Or.inr ⟨by kernel_rfl, rfl⟩) HB1_4.out ?_
    go_simp
    refine wpAnyH_take (i := 17) (v := undef) rfl (by kernel_rfl) (by kernel_rfl) (by kernel_rfl) (fun _ _ _ h => h) (Or.inr ⟨by kernel_rfl, rfl⟩) HB1_4.out ?_
    go_simp
    refine wpAnyH_take (i := 18) (v := .bool true) rfl (by kernel_rfl) (by kernel_rfl) (by kernel_rfl) (fun _ _ _ h => h) (Or.inl ⟨by kernel_rfl, ?h18⟩) HB1_4.out ?_
    case h18 => (intro WX hWX; go_simp)
    go_simp
    refine wpAnyH_take (i := 19) (v := .bool true) rfl (by kernel_rfl) (by kernel_rfl) (by kernel_rfl) (fun _ _ _ h => h) (Or.inl ⟨by kernel_rfl, ?h19⟩) HB1_4.out ?_
    case h19 => (intro WX hWX; go_simp)
    go_simp
    refine wpAnyH_take (i := 20) (v := .bool true) rfl (by kernel_rfl) (by kernel_rfl) (by kernel_rfl) (fun _ _ _ h => h) (Or.inl ⟨by kernel_rfl, ?h20⟩) HB1_4.out ?_
    case h20 => (intro WX hWX; go_simp)
    go_simp
    refine wpAnyH_take (i := 21) (v := .agg #[.int .i64 al, .int .i64 as_, .int .i64 an]) rfl (by kernel_rfl) (by kernel_rfl) (by kernel_rfl) (fun _ _ _ h => h) (Or.inl ⟨by kernel_rfl, ?h21⟩) HB1_4.out ?_
    case h21 => (intro WX hWX; obtain ⟨y0, y1, y2⟩ := cells3 (HX0_0.out WX (HB0_1.out.trans ((show Below W1.heap.size W1 WX from hWX).mono HB0_1.out.size))); go_simp)
    go_simp
    refine wpAnyH_take (i := 22) (v := .agg #[.int .i64 bl, .int .i64 bs, .int .i64 bn]) rfl (by kernel_rfl) (by kernel_rfl) (by kernel_rfl) (fun _ _ _ h => h) (Or.inl ⟨by kernel_rfl, ?h22⟩) HB1_4.out ?_
    case h22 => (intro WX hWX; obtain ⟨y0, y1, y2⟩ := cells3 (HX1_0.out WX (HB0_1.out.trans ((show Below W1.heap.size W1 WX from hWX).mono HB0_1.out.size))); go_simp)
    go_simp
    refine wpAnyH_take (i := 29) (v := .agg #[.int .i64 al, .int .i64 as_, .int .i64 an]) rfl (by kernel_rfl) (by kernel_rfl) (by kernel_rfl) (fun _ _ _ h => h) (Or.inl ⟨by kernel_rfl, ?h29⟩) HB1_4.out ?_
    case h29 => (intro WX hWX; obtain ⟨y0, y1, y2⟩ := cells3 (HX0_0.out WX (HB0_1.out.trans ((show Below W1.heap.size W1 WX from hWX).mono HB0_1.out.size))); go_simp)
    go_simp
    refine wpAnyH_take (i := 30) (v := .agg #[.int .i64 bl, .int .i64 bs, .int .i64 bn]) rfl (by kernel_rfl) (by kernel_rfl) (by kernel_rfl) (fun _ _ _ h => h) (Or.inl ⟨by kernel_rfl, ?h30⟩) HB1_4.out ?_
    case h30 => (intro WX hWX; obtain ⟨y0, y1, y2⟩ := cells3 (HX1_0.out WX (HB0_1.out.trans ((show Below W1.heap.size W1 WX from hWX).mono HB0_1.out.size))); go_simp)
    go_simp
    refine wpAnyH_take (i := 31) (v := .bool false) rfl (by kernel_rfl) (by kernel_rfl) (by kernel_rfl) (fun _ _ _ h => h) (Or.inl ⟨by kernel_rfl, ?h31⟩) HB1_4.out ?_
    case h31 => (intro WX hWX; go_simp)
    go_simp
    refine wpAnyH_ready (rs := [23]) (by kernel_rfl) (by simp) ?_
    refine AllReadyH.cons rfl (fun K hK => ?_) AllReadyH.nil
    go_simp
    go_wp2_with (refine Calls.mono (covers_is al as_ an bl bs bn HCvab.out _) ?_; rintro e5 W5 ⟨rfl, hb⟩)
    have HBw5 : Hid (Below w.heap.size w W5) := Lib.hid (HBw4.out.trans ((hb : Below W4.heap.size W4 W5).mono HBw4.out.size))
    have HB0_5 : Hid (Below W0.heap.size W0 W5) := Lib.hid (HB0_4.out.trans ((hb : Below W4.heap.size W4 W5).mono HB0_4.out.size))
    have HB1_5 : Hid (Below W1.heap.size W1 W5) := Lib.hid (HB1_4.out.trans ((hb : Below W4.heap.size W4 W5).mono HB1_4.out.size))
    have HB2_5 : Hid (Below W2.heap.size W2 W5) := Lib.hid (HB2_4.out.trans ((hb : Below W4.heap.size W4 W5).mono HB2_4.out.size))
    have HB3_5 : Hid (Below W3.heap.size W3 W5) := Lib.hid (HB3_4.out.trans ((hb : Below W4.heap.size W4 W5).mono HB3_4.out.size))
    have HB4_5 : Hid (Below W4.heap.size W4 W5) := Lib.hid (hb)
    clear hb
    refine hK.out _ _ HB1_5.out (fun _ => ?_)
    clear hK K
    go_simp
    refine wpAnyH_take (i := 24) (v := .bool false) rfl (by kernel_rfl) (by kernel_rfl) (by kernel_rfl) (fun _ _ _ h => h) (Or.inl ⟨by kernel_rfl, ?h24⟩) HB1_5.out ?_
    case h24 => (intro WX hWX; go_simp)
    go_simp
    refine wpAnyH_take (i := 25) (v := undef) rfl (by kernel_rfl) (by kernel_rfl) (by kernel_rfl) (fun _ _ _ h => h) (Or.inr ⟨by kernel_rfl, rfl⟩) HB1_5.out ?_
    go_simp
    refine wpAnyH_take (i := 26) (v := undef) rfl (by kernel_rfl) (by kernel_rfl) (by kernel_rfl) (fun _ _ _ h => h) (Or.inr ⟨by kernel_rfl, rfl⟩) HB1_5.out ?_
    go_simp
    refine wpAnyH_take (i := 27) (v := undef) rfl (by kernel_rfl) (by kernel_rfl) (by kernel_rfl) (fun _ _ _ h => h) (Or.inr ⟨by kernel_rfl, rfl⟩) HB1_5.out ?_
    go_simp
    refine wpAnyH_take (i := 28) (v := .bool false) rfl (by kernel_rfl) (by kernel_rfl) (by kernel_rfl) (fun _ _ _ h => h) (Or.inl ⟨by kernel_rfl, ?h28⟩) HB1_5.out ?_
    case h28 => (intro WX hWX; go_simp)
    go_simp
    refine wpAnyH_take (i := 32) (v := .bool true) rfl (by kernel_rfl) (by kernel_rfl) (by kernel_rfl) (fun _ _ _ h => h) (Or.inl ⟨by kernel_rfl, ?h32⟩) HB1_5.out ?_
    case h32 => (intro WX hWX; go_simp)
    go_simp
    refine wpAnyH_take (i := 33) (v := .bool true) rfl (by kernel_rfl) (by kernel_rfl) (by kernel_rfl) (fun _ _ _ h => h) (Or.inl ⟨by kernel_rfl, ?h33⟩) HB1_5.out ?_
    case h33 => (intro WX hWX; go_simp)
    go_simp
    refine wpAnyH_take (i := 34) (v := .bool true) rfl (by kernel_rfl) (by kernel_rfl) (by kernel_rfl) (fun _ _ _ h => h) (Or.inl ⟨by kernel_rfl, ?h34⟩) HB1_5.out ?_
    case h34 => (intro WX hWX; go_simp)
    go_simp
    refine wpAnyH_done (by kernel_rfl) ?_ _
    go_wp2_with fail
    go_ret
    exact ⟨rec.retB (by first | rfl | (simp; done) | (simp; omega)), HBw5.out⟩
  · obtain ⟨cvbc, HCvbc⟩ : ∃ x, Hid (covers ⟨bl, bs, bn⟩ ⟨cl, cs_, cn⟩ = x) := ⟨_, Lib.hid rfl⟩
    rcases cvbc with _ | _
    · obtain ⟨cvba, HCvba⟩ : ∃ x, Hid (covers ⟨bl, bs, bn⟩ ⟨al, as_, an⟩ = x) := ⟨_, Lib.hid rfl⟩
      rcases cvba with _ | _
      · have heq2 : ∀ W, (Op.equalIn 10000 27 (.agg #[.int .i64 al, .int .i64 as_, .int .i64 an]) (.agg #[.int .i64 bl, .int .i64 bs, .int .i64 bn])).run Try.prog W = .ok false W := fun W => eq3_of rfl rfl HA.out HB.out (decide_eq_false (fun h => by have k := HCvba.out; rw [← h, covers_self] at k; simp at k)) W
        go_upto_region 3 with fail
        refine wp_region_held_drew (S := fun W => Below W1.heap.size W1 W) (by kernel_rfl) (Below.refl _ _).drew (fun _ => ?_)
        obtain ⟨W2, hW2⟩ : ∃ x, x = W1.drew := ⟨_, rfl⟩
        rw [← hW2]
        have HBw2 : Hid (Below w.heap.size w W2) := Lib.hid (HBw1.out.trans ((by rw [hW2]; exact (Below.refl _ _).drew : Below W1.heap.size W1 W2).mono HBw1.out.size))
        have HB0_2 : Hid (Below W0.heap.size W0 W2) := Lib.hid (HB0_1.out.trans ((by rw [hW2]; exact (Below.refl _ _).drew : Below W1.heap.size W1 W2).mono HB0_1.out.size))
        have HB1_2 : Hid (Below W1.heap.size W1 W2) := Lib.hid (by rw [hW2]; exact (Below.refl _ _).drew)
        clear hW2
        refine wpAnyH_take (i := 0) (v := .agg #[.int .i64 al, .int .i64 as_, .int .i64 an]) rfl (by kernel_rfl) (by kernel_rfl) (by kernel_rfl) (fun _ _ _ h => h) (Or.inl ⟨by kernel_rfl, ?h0⟩) HB1_2.out ?_
        case h0 => (intro WX hWX; obtain ⟨y0, y1, y2⟩ := cells3 (HX0_0.out WX (HB0_1.out.trans ((show Below W1.heap.size W1 WX from hWX).mono HB0_1.out.size))); go_simp)
        go_simp
        refine wpAnyH_take (i := 1) (v := .agg #[.int .i64 al, .int .i64 as_, .int .i64 an]) rfl (by kernel_rfl) (by kernel_rfl) (by kernel_rfl) (fun _ _ _ h => h) (Or.inl ⟨by kernel_rfl, ?h1⟩) HB1_2.out ?_
        case h1 => (intro WX hWX; obtain ⟨y0, y1, y2⟩ := cells3 (HX0_0.out WX (HB0_1.out.trans ((show Below W1.heap.size W1 WX from hWX).mono HB0_1.out.size))); go_simp)
        go_simp
        refine wpAnyH_ready (rs := [2]) (by kernel_rfl) (by simp) ?_
        refine AllReadyH.cons rfl (fun K hK => ?_) AllReadyH.nil
        go_simp
        go_wp2_with (refine Calls.mono (covers_is al as_ an al as_ an HCs.out _) ?_; rintro e3 W3 ⟨rfl, hb⟩)
        have HBw3 : Hid (Below w.heap.size w W3) := Lib.hid (HBw2.out.trans ((hb : Below W2.heap.size W2 W3).mono HBw2.out.size))
        have HB0_3 : Hid (Below W0.heap.size W0 W3) := Lib.hid (HB0_2.out.trans ((hb : Below W2.heap.size W2 W3).mono HB0_2.out.size))
        have HB1_3 : Hid (Below W1.heap.size W1 W3) := Lib.hid (HB1_2.out.trans ((hb : Below W2.heap.size W2 W3).mono HB1_2.out.size))
        have HB2_3 : Hid (Below W2.heap.size W2 W3) := Lib.hid (hb)
        clear hb
        refine hK.out _ _ HB1_3.out (fun _ => ?_)
        clear hK K
        go_simp
        refine wpAnyH_take (i := 3) (v := .bool true) rfl (by kernel_rfl) (by kernel_rfl) (by kernel_rfl) (fun _ _ _ h => h) (Or.inl ⟨by kernel_rfl, ?h3⟩) HB1_3.out ?_
        case h3 => (intro WX hWX; go_simp)
        go_simp
        refine wpAnyH_take (i := 4) (v := .agg #[.int .i64 al, .int .i64 as_, .int .i64 an]) rfl (by kernel_rfl) (by kernel_rfl) (by kernel_rfl) (fun _ _ _ h => h) (Or.inl ⟨by kernel_rfl, ?h4⟩) HB1_3.out ?_
        case h4 => (intro WX hWX; obtain ⟨y0, y1, y2⟩ := cells3 (HX0_0.out WX (HB0_1.out.trans ((show Below W1.heap.size W1 WX from hWX).mono HB0_1.out.size))); go_simp)
        go_simp
        refine wpAnyH_take (i := 5) (v := .agg #[.int .i64 bl, .int .i64 bs, .int .i64 bn]) rfl (by kernel_rfl) (by kernel_rfl) (by kernel_rfl) (fun _ _ _ h => h) (Or.inl ⟨by kernel_rfl, ?h5⟩) HB1_3.out ?_
        case h5 => (intro WX hWX; obtain ⟨y0, y1, y2⟩ := cells3 (HX1_0.out WX (HB0_1.out.trans ((show Below W1.heap.size W1 WX from hWX).mono HB0_1.out.size))); go_simp)
        go_simp
        refine wpAnyH_ready (rs := [6]) (by kernel_rfl) (by simp) ?_
        refine AllReadyH.cons rfl (fun K hK => ?_) AllReadyH.nil
        go_simp
        go_wp2_with (refine Calls.mono (covers_is al as_ an bl bs bn HCvab.out _) ?_; rintro e4 W4 ⟨rfl, hb⟩)
        have HBw4 : Hid (Below w.heap.size w W4) := Lib.hid (HBw3.out.trans ((hb : Below W3.heap.size W3 W4).mono HBw3.out.size))
        have HB0_4 : Hid (Below W0.heap.size W0 W4) := Lib.hid (HB0_3.out.trans ((hb : Below W3.heap.size W3 W4).mono HB0_3.out.size))
        have HB1_4 : Hid (Below W1.heap.size W1 W4) := Lib.hid (HB1_3.out.trans ((hb : Below W3.heap.size W3 W4).mono HB1_3.out.size))
        have HB2_4 : Hid (Below W2.heap.size W2 W4) := Lib.hid (HB2_3.out.trans ((hb : Below W3.heap.size W3 W4).mono HB2_3.out.size))
        have HB3_4 : Hid (Below W3.heap.size W3 W4) := Lib.hid (hb)
        clear hb
        refine hK.out _ _ HB1_4.out (fun _ => ?_)
        clear hK K
        go_simp
        refine wpAnyH_take (i := 7) (v := .bool false) rfl (by kernel_rfl) (by kernel_rfl) (by kernel_rfl) (fun _ _ _ h => h) (Or.inl ⟨by kernel_rfl, ?h7⟩) HB1_4.out ?_
        case h7 => (intro WX hWX; go_simp)
        go_simp
        refine wpAnyH_take (i := 8) (v := .bool false) rfl (by kernel_rfl) (by kernel_rfl) (by kernel_rfl) (fun _ _ _ h => h) (Or.inl ⟨by kernel_rfl, ?h8⟩) HB1_4.out ?_
        case h8 => (intro WX hWX; go_simp)
        go_simp
        refine wpAnyH_take (i := 9) (v := .agg #[.int .i64 bl, .int .i64 bs, .int .i64 bn]) rfl (by kernel_rfl) (by kernel_rfl) (by kernel_rfl) (fun _ _ _ h => h) (Or.inl ⟨by kernel_rfl, ?h9⟩) HB1_4.out ?_
        case h9 => (intro WX hWX; obtain ⟨y0, y1, y2⟩ := cells3 (HX1_0.out WX (HB0_1.out.trans ((show Below W1.heap.size W1 WX from hWX).mono HB0_1.out.size))); go_simp)
        go_simp
        refine wpAnyH_take (i := 10) (v := .agg #[.int .i64 cl, .int .i64 cs_, .int .i64 cn]) rfl (by kernel_rfl) (by kernel_rfl) (by kernel_rfl) (fun _ _ _ h => h) (Or.inl ⟨by kernel_rfl, ?h10⟩) HB1_4.out ?_
        case h10 => (intro WX hWX; obtain ⟨y0, y1, y2⟩ := cells3 (HX2_0.out WX (HB0_1.out.trans ((show Below W1.heap.size W1 WX from hWX).mono HB0_1.out.size))); go_simp)
        go_simp
        refine wpAnyH_ready (rs := [11]) (by kernel_rfl) (by simp) ?_
        refine AllReadyH.cons rfl (fun K hK => ?_) AllReadyH.nil
        go_simp
        go_wp2_with (refine Calls.mono (covers_is bl bs bn cl cs_ cn HCvbc.out _) ?_; rintro e5 W5 ⟨rfl, hb⟩)
        have HBw5 : Hid (Below w.heap.size w W5) := Lib.hid (HBw4.out.trans ((hb : Below W4.heap.size W4 W5).mono HBw4.out.size))
        have HB0_5 : Hid (Below W0.heap.size W0 W5) := Lib.hid (HB0_4.out.trans ((hb : Below W4.heap.size W4 W5).mono HB0_4.out.size))
        have HB1_5 : Hid (Below W1.heap.size W1 W5) := Lib.hid (HB1_4.out.trans ((hb : Below W4.heap.size W4 W5).mono HB1_4.out.size))
        have HB2_5 : Hid (Below W2.heap.size W2 W5) := Lib.hid (HB2_4.out.trans ((hb : Below W4.heap.size W4 W5).mono HB2_4.out.size))
        have HB3_5 : Hid (Below W3.heap.size W3 W5) := Lib.hid (HB3_4.out.trans ((hb : Below W4.heap.size W4 W5).mono HB3_4.out.size))
        have HB4_5 : Hid (Below W4.heap.size W4 W5) := Lib.hid (hb)
        clear hb
        refine hK.out _ _ HB1_5.out (fun _ => ?_)
        clear hK K
        go_simp
        refine wpAnyH_take (i := 12) (v := .bool true) rfl (by kernel_rfl) (by kernel_rfl) (by kernel_rfl) (fun _ _ _ h => h) (Or.inl ⟨by kernel_rfl, ?h12⟩) HB1_5.out ?_
        case h12 => (intro WX hWX; go_simp)
        go_simp
        refine wpAnyH_take (i := 13) (v := .bool true) rfl (by kernel_rfl) (by kernel_rfl) (by kernel_rfl) (fun _ _ _ h => h) (Or.inl ⟨by kernel_rfl, ?h13⟩) HB1_5.out ?_
        case h13 => (intro WX hWX; go_simp)
        go_simp
        refine wpAnyH_take (i := 14) (v := .bool true) rfl (by kernel_rfl) (by kernel_rfl) (by kernel_rfl) (fun _ _ _ h => h) (Or.inl ⟨by kernel_rfl, ?h14⟩) HB1_5.out ?_
        case h14 => (intro WX hWX; go_simp)
        go_simp
        refine wpAnyH_take (i := 15) (v := undef) rfl (by kernel_rfl) (by kernel_rfl) (by kernel_rfl) (fun _ _ _ h => h) (Or.inr ⟨by kernel_rfl, rfl⟩) HB1_5.out ?_
        go_simp
        refine wpAnyH_take (i := 16) (v := undef) rfl (by kernel_rfl) (by kernel_rfl) (by kernel_rfl) (fun _ _ _ h => h) (Or.inr ⟨by kernel_rfl, rfl⟩) HB1_5.out ?_
        go_simp
        refine wpAnyH_take (i := 17) (v := undef) rfl (by kernel_rfl) (by kernel_rfl) (by kernel_rfl) (fun _ _ _ h => h) (Or.inr ⟨by kernel_rfl, rfl⟩) HB1_5.out ?_
        go_simp
        refine wpAnyH_take (i := 18) (v := .bool true) rfl (by kernel_rfl) (by kernel_rfl) (by kernel_rfl) (fun _ _ _ h => h) (Or.inl ⟨by kernel_rfl, ?h18⟩) HB1_5.out ?_
        case h18 => (intro WX hWX; go_simp)
        go_simp
        refine wpAnyH_take (i := 19) (v := .bool true) rfl (by kernel_rfl) (by kernel_rfl) (by kernel_rfl) (fun _ _ _ h => h) (Or.inl ⟨by kernel_rfl, ?h19⟩) HB1_5.out ?_
        case h19 => (intro WX hWX; go_simp)
        go_simp
        refine wpAnyH_take (i := 20) (v := .bool true) rfl (by kernel_rfl) (by kernel_rfl) (by kernel_rfl) (fun _ _ _ h => h) (Or.inl ⟨by kernel_rfl, ?h20⟩) HB1_5.out ?_
        case h20 => (intro WX hWX; go_simp)
        go_simp
        refine wpAnyH_take (i := 21) (v := .agg #[.int .i64 al, .int .i64 as_, .int .i64 an]) rfl (by kernel_rfl) (by kernel_rfl) (by kernel_rfl) (fun _ _ _ h => h) (Or.inl ⟨by kernel_rfl, ?h21⟩) HB1_5.out ?_
        case h21 => (intro WX hWX; obtain ⟨y0, y1, y2⟩ := cells3 (HX0_0.out WX (HB0_1.out.trans ((show Below W1.heap.size W1 WX from hWX).mono HB0_1.out.size))); go_simp)
        go_simp
        refine wpAnyH_take (i := 22) (v := .agg #[.int .i64 bl, .int .i64 bs, .int .i64 bn]) rfl (by kernel_rfl) (by kernel_rfl) (by kernel_rfl) (fun _ _ _ h => h) (Or.inl ⟨by kernel_rfl, ?h22⟩) HB1_5.out ?_
        case h22 => (intro WX hWX; obtain ⟨y0, y1, y2⟩ := cells3 (HX1_0.out WX (HB0_1.out.trans ((show Below W1.heap.size W1 WX from hWX).mono HB0_1.out.size))); go_simp)
        go_simp
        refine wpAnyH_take (i := 29) (v := .agg #[.int .i64 al, .int .i64 as_, .int .i64 an]) rfl (by kernel_rfl) (by kernel_rfl) (by kernel_rfl) (fun _ _ _ h => h) (Or.inl ⟨by kernel_rfl, ?h29⟩) HB1_5.out ?_
        case h29 => (intro WX hWX; obtain ⟨y0, y1, y2⟩ := cells3 (HX0_0.out WX (HB0_1.out.trans ((show Below W1.heap.size W1 WX from hWX).mono HB0_1.out.size))); go_simp)
        go_simp
        refine wpAnyH_take (i := 30) (v := .agg #[.int .i64 bl, .int .i64 bs, .int .i64 bn]) rfl (by kernel_rfl) (by kernel_rfl) (by kernel_rfl) (fun _ _ _ h => h) (Or.inl ⟨by kernel_rfl, ?h30⟩) HB1_5.out ?_
        case h30 => (intro WX hWX; obtain ⟨y0, y1, y2⟩ := cells3 (HX1_0.out WX (HB0_1.out.trans ((show Below W1.heap.size W1 WX from hWX).mono HB0_1.out.size))); go_simp)
        go_simp
        refine wpAnyH_take (i := 31) (v := .bool false) rfl (by kernel_rfl) (by kernel_rfl) (by kernel_rfl) (fun _ _ _ h => h) (Or.inl ⟨by kernel_rfl, ?h31⟩) HB1_5.out ?_
        case h31 => (intro WX hWX; go_simp)
        go_simp
        refine wpAnyH_ready (rs := [23]) (by kernel_rfl) (by simp) ?_
        refine AllReadyH.cons rfl (fun K hK => ?_) AllReadyH.nil
        go_simp
        go_wp2_with (refine Calls.mono (covers_is al as_ an bl bs bn HCvab.out _) ?_; rintro e6 W6 ⟨rfl, hb⟩)
        have HBw6 : Hid (Below w.heap.size w W6) := Lib.hid (HBw5.out.trans ((hb : Below W5.heap.size W5 W6).mono HBw5.out.size))
        have HB0_6 : Hid (Below W0.heap.size W0 W6) := Lib.hid (HB0_5.out.trans ((hb : Below W5.heap.size W5 W6).mono HB0_5.out.size))
        have HB1_6 : Hid (Below W1.heap.size W1 W6) := Lib.hid (HB1_5.out.trans ((hb : Below W5.heap.size W5 W6).mono HB1_5.out.size))
        have HB2_6 : Hid (Below W2.heap.size W2 W6) := Lib.hid (HB2_5.out.trans ((hb : Below W5.heap.size W5 W6).mono HB2_5.out.size))
        have HB3_6 : Hid (Below W3.heap.size W3 W6) := Lib.hid (HB3_5.out.trans ((hb : Below W5.heap.size W5 W6).mono HB3_5.out.size))
        have HB4_6 : Hid (Below W4.heap.size W4 W6) := Lib.hid (HB4_5.out.trans ((hb : Below W5.heap.size W5 W6).mono HB4_5.out.size))
        have HB5_6 : Hid (Below W5.heap.size W5 W6) := Lib.hid (hb)
        clear hb
        refine hK.out _ _ HB1_6.out (fun _ => ?_)
        clear hK K
        go_simp
        refine wpAnyH_take (i := 24) (v := .bool true) rfl (by kernel_rfl) (by kernel_rfl) (by kernel_rfl) (fun _ _ _ h => h) (Or.inl ⟨by kernel_rfl, ?h24⟩) HB1_6.out ?_
        case h24 => (intro WX hWX; go_simp)
        go_simp
        refine wpAnyH_take (i := 25) (v := .agg #[.int .i64 bl, .int .i64 bs, .int .i64 bn]) rfl (by kernel_rfl) (by kernel_rfl) (by kernel_rfl) (fun _ _ _ h => h) (Or.inl ⟨by kernel_rfl, ?h25⟩) HB1_6.out ?_
        case h25 => (intro WX hWX; obtain ⟨y0, y1, y2⟩ := cells3 (HX1_0.out WX (HB0_1.out.trans ((show Below W1.heap.size W1 WX from hWX).mono HB0_1.out.size))); go_simp)
        go_simp
        refine wpAnyH_take (i := 26) (v := .agg #[.int .i64 al, .int .i64 as_, .int .i64 an]) rfl (by kernel_rfl) (by kernel_rfl) (by kernel_rfl) (fun _ _ _ h => h) (Or.inl ⟨by kernel_rfl, ?h26⟩) HB1_6.out ?_
        case h26 => (intro WX hWX; obtain ⟨y0, y1, y2⟩ := cells3 (HX0_0.out WX (HB0_1.out.trans ((show Below W1.heap.size W1 WX from hWX).mono HB0_1.out.size))); go_simp)
        go_simp
        refine wpAnyH_ready (rs := [27]) (by kernel_rfl) (by simp) ?_
        refine AllReadyH.cons rfl (fun K hK => ?_) AllReadyH.nil
        go_simp
        go_wp2_with (refine Calls.mono (covers_is bl bs bn al as_ an HCvba.out _) ?_; rintro e7 W7 ⟨rfl, hb⟩)
        have HBw7 : Hid (Below w.heap.size w W7) := Lib.hid (HBw6.out.trans ((hb : Below W6.heap.size W6 W7).mono HBw6.out.size))
        have HB0_7 : Hid (Below W0.heap.size W0 W7) := Lib.hid (HB0_6.out.trans ((hb : Below W6.heap.size W6 W7).mono HB0_6.out.size))
        have HB1_7 : Hid (Below W1.heap.size W1 W7) := Lib.hid (HB1_6.out.trans ((hb : Below W6.heap.size W6 W7).mono HB1_6.out.size))
        have HB2_7 : Hid (Below W2.heap.size W2 W7) := Lib.hid (HB2_6.out.trans ((hb : Below W6.heap.size W6 W7).mono HB2_6.out.size))
        have HB3_7 : Hid (Below W3.heap.size W3 W7) := Lib.hid (HB3_6.out.trans ((hb : Below W6.heap.size W6 W7).mono HB3_6.out.size))
        have HB4_7 : Hid (Below W4.heap.size W4 W7) := Lib.hid (HB4_6.out.trans ((hb : Below W6.heap.size W6 W7).mono HB4_6.out.size))
        have HB5_7 : Hid (Below W5.heap.size W5 W7) := Lib.hid (HB5_6.out.trans ((hb : Below W6.heap.size W6 W7).mono HB5_6.out.size))
        have HB6_7 : Hid (Below W6.heap.size W6 W7) := Lib.hid (hb)
        clear hb
        refine hK.out _ _ HB1_7.out (fun _ => ?_)
        clear hK K
        go_simp
        refine wpAnyH_take (i := 28) (v := .bool false) rfl (by kernel_rfl) (by kernel_rfl) (by kernel_rfl) (fun _ _ _ h => h) (Or.inl ⟨by kernel_rfl, ?h28⟩) HB1_7.out ?_
        case h28 => (intro WX hWX; go_simp)
        go_simp
        refine wpAnyH_take (i := 32) (v := .bool true) rfl (by kernel_rfl) (by kernel_rfl) (by kernel_rfl) (fun _ _ _ h => h) (Or.inl ⟨by kernel_rfl, ?h32⟩) HB1_7.out ?_
        case h32 => (intro WX hWX; go_simp)
        go_simp
        refine wpAnyH_take (i := 33) (v := .bool true) rfl (by kernel_rfl) (by kernel_rfl) (by kernel_rfl) (fun _ _ _ h => h) (Or.inl ⟨by kernel_rfl, ?h33⟩) HB1_7.out ?_
        case h33 => (intro WX hWX; go_simp)
        go_simp
        refine wpAnyH_take (i := 34) (v := .bool true) rfl (by kernel_rfl) (by kernel_rfl) (by kernel_rfl) (fun _ _ _ h => h) (Or.inl ⟨by kernel_rfl, ?h34⟩) HB1_7.out ?_
        case h34 => (intro WX hWX; go_simp)
        go_simp
        refine wpAnyH_done (by kernel_rfl) ?_ _
        go_wp2_with fail
        go_ret
        exact ⟨rec.retB (by first | rfl | (simp; done) | (simp; omega)), HBw7.out⟩
      · have heq3 : ∀ W, (Op.equalIn 10000 27 (.agg #[.int .i64 al, .int .i64 as_, .int .i64 an]) (.agg #[.int .i64 bl, .int .i64 bs, .int .i64 bn])).run Try.prog W = .ok true W := fun W => eq3_of rfl rfl HA.out HB.out (decide_eq_true (covers_anti HCvab.out HCvba.out)) W
        go_upto_region 3 with fail
        refine wp_region_held_drew (S := fun W => Below W1.heap.size W1 W) (by kernel_rfl) (Below.refl _ _).drew (fun _ => ?_)
        obtain ⟨W2, hW2⟩ : ∃ x, x = W1.drew := ⟨_, rfl⟩
        rw [← hW2]
        have HBw2 : Hid (Below w.heap.size w W2) := Lib.hid (HBw1.out.trans ((by rw [hW2]; exact (Below.refl _ _).drew : Below W1.heap.size W1 W2).mono HBw1.out.size))
        have HB0_2 : Hid (Below W0.heap.size W0 W2) := Lib.hid (HB0_1.out.trans ((by rw [hW2]; exact (Below.refl _ _).drew : Below W1.heap.size W1 W2).mono HB0_1.out.size))
        have HB1_2 : Hid (Below W1.heap.size W1 W2) := Lib.hid (by rw [hW2]; exact (Below.refl _ _).drew)
        clear hW2
        refine wpAnyH_take (i := 0) (v := .agg #[.int .i64 al, .int .i64 as_, .int .i64 an]) rfl (by kernel_rfl) (by kernel_rfl) (by kernel_rfl) (fun _ _ _ h => h) (Or.inl ⟨by kernel_rfl, ?h0⟩) HB1_2.out ?_
        case h0 => (intro WX hWX; obtain ⟨y0, y1, y2⟩ := cells3 (HX0_0.out WX (HB0_1.out.trans ((show Below W1.heap.size W1 WX from hWX).mono HB0_1.out.size))); go_simp)
        go_simp
        refine wpAnyH_take (i := 1) (v := .agg #[.int .i64 al, .int .i64 as_, .int .i64 an]) rfl (by kernel_rfl) (by kernel_rfl) (by kernel_rfl) (fun _ _ _ h => h) (Or.inl ⟨by kernel_rfl, ?h1⟩) HB1_2.out ?_
        case h1 => (intro WX hWX; obtain ⟨y0, y1, y2⟩ := cells3 (HX0_0.out WX (HB0_1.out.trans ((show Below W1.heap.size W1 WX from hWX).mono HB0_1.out.size))); go_simp)
        go_simp
        refine wpAnyH_ready (rs := [2]) (by kernel_rfl) (by simp) ?_
        refine AllReadyH.cons rfl (fun K hK => ?_) AllReadyH.nil
        go_simp
        go_wp2_with (refine Calls.mono (covers_is al as_ an al as_ an HCs.out _) ?_; rintro e3 W3 ⟨rfl, hb⟩)
        have HBw3 : Hid (Below w.heap.size w W3) := Lib.hid (HBw2.out.trans ((hb : Below W2.heap.size W2 W3).mono HBw2.out.size))
        have HB0_3 : Hid (Below W0.heap.size W0 W3) := Lib.hid (HB0_2.out.trans ((hb : Below W2.heap.size W2 W3).mono HB0_2.out.size))
        have HB1_3 : Hid (Below W1.heap.size W1 W3) := Lib.hid (HB1_2.out.trans ((hb : Below W2.heap.size W2 W3).mono HB1_2.out.size))
        have HB2_3 : Hid (Below W2.heap.size W2 W3) := Lib.hid (hb)
        clear hb
        refine hK.out _ _ HB1_3.out (fun _ => ?_)
        clear hK K
        go_simp
        refine wpAnyH_take (i := 3) (v := .bool true) rfl (by kernel_rfl) (by kernel_rfl) (by kernel_rfl) (fun _ _ _ h => h) (Or.inl ⟨by kernel_rfl, ?h3⟩) HB1_3.out ?_
        case h3 => (intro WX hWX; go_simp)
        go_simp
        refine wpAnyH_take (i := 4) (v := .agg #[.int .i64 al, .int .i64 as_, .int .i64 an]) rfl (by kernel_rfl) (by kernel_rfl) (by kernel_rfl) (fun _ _ _ h => h) (Or.inl ⟨by kernel_rfl, ?h4⟩) HB1_3.out ?_
        case h4 => (intro WX hWX; obtain ⟨y0, y1, y2⟩ := cells3 (HX0_0.out WX (HB0_1.out.trans ((show Below W1.heap.size W1 WX from hWX).mono HB0_1.out.size))); go_simp)
        go_simp
        refine wpAnyH_take (i := 5) (v := .agg #[.int .i64 bl, .int .i64 bs, .int .i64 bn]) rfl (by kernel_rfl) (by kernel_rfl) (by kernel_rfl) (fun _ _ _ h => h) (Or.inl ⟨by kernel_rfl, ?h5⟩) HB1_3.out ?_
        case h5 => (intro WX hWX; obtain ⟨y0, y1, y2⟩ := cells3 (HX1_0.out WX (HB0_1.out.trans ((show Below W1.heap.size W1 WX from hWX).mono HB0_1.out.size))); go_simp)
        go_simp
        refine wpAnyH_ready (rs := [6]) (by kernel_rfl) (by simp) ?_
        refine AllReadyH.cons rfl (fun K hK => ?_) AllReadyH.nil
        go_simp
        go_wp2_with (refine Calls.mono (covers_is al as_ an bl bs bn HCvab.out _) ?_; rintro e4 W4 ⟨rfl, hb⟩)
        have HBw4 : Hid (Below w.heap.size w W4) := Lib.hid (HBw3.out.trans ((hb : Below W3.heap.size W3 W4).mono HBw3.out.size))
        have HB0_4 : Hid (Below W0.heap.size W0 W4) := Lib.hid (HB0_3.out.trans ((hb : Below W3.heap.size W3 W4).mono HB0_3.out.size))
        have HB1_4 : Hid (Below W1.heap.size W1 W4) := Lib.hid (HB1_3.out.trans ((hb : Below W3.heap.size W3 W4).mono HB1_3.out.size))
        have HB2_4 : Hid (Below W2.heap.size W2 W4) := Lib.hid (HB2_3.out.trans ((hb : Below W3.heap.size W3 W4).mono HB2_3.out.size))
        have HB3_4 : Hid (Below W3.heap.size W3 W4) := Lib.hid (hb)
        clear hb
        refine hK.out _ _ HB1_4.out (fun _ => ?_)
        clear hK K
        go_simp
        refine wpAnyH_take (i := 7) (v := .bool false) rfl (by kernel_rfl) (by kernel_rfl) (by kernel_rfl) (fun _ _ _ h => h) (Or.inl ⟨by kernel_rfl, ?h7⟩) HB1_4.out ?_
        case h7 => (intro WX hWX; go_simp)
        go_simp
        refine wpAnyH_take (i := 8) (v := .bool false) rfl (by kernel_rfl) (by kernel_rfl) (by kernel_rfl) (fun _ _ _ h => h) (Or.inl ⟨by kernel_rfl, ?h8⟩) HB1_4.out ?_
        case h8 => (intro WX hWX; go_simp)
        go_simp
        refine wpAnyH_take (i := 9) (v := .agg #[.int .i64 bl, .int .i64 bs, .int .i64 bn]) rfl (by kernel_rfl) (by kernel_rfl) (by kernel_rfl) (fun _ _ _ h => h) (Or.inl ⟨by kernel_rfl, ?h9⟩) HB1_4.out ?_
        case h9 => (intro WX hWX; obtain ⟨y0, y1, y2⟩ := cells3 (HX1_0.out WX (HB0_1.out.trans ((show Below W1.heap.size W1 WX from hWX).mono HB0_1.out.size))); go_simp)
        go_simp
        refine wpAnyH_take (i := 10) (v := .agg #[.int .i64 cl, .int .i64 cs_, .int .i64 cn]) rfl (by kernel_rfl) (by kernel_rfl) (by kernel_rfl) (fun _ _ _ h => h) (Or.inl ⟨by kernel_rfl, ?h10⟩) HB1_4.out ?_
        case h10 => (intro WX hWX; obtain ⟨y0, y1, y2⟩ := cells3 (HX2_0.out WX (HB0_1.out.trans ((show Below W1.heap.size W1 WX from hWX).mono HB0_1.out.size))); go_simp)
        go_simp
        refine wpAnyH_ready (rs := [11]) (by kernel_rfl) (by simp) ?_
        refine AllReadyH.cons rfl (fun K hK => ?_) AllReadyH.nil
        go_simp
        go_wp2_with (refine Calls.mono (covers_is bl bs bn cl cs_ cn HCvbc.out _) ?_; rintro e5 W5 ⟨rfl, hb⟩)
        have HBw5 : Hid (Below w.heap.size w W5) := Lib.hid (HBw4.out.trans ((hb : Below W4.heap.size W4 W5).mono HBw4.out.size))
        have HB0_5 : Hid (Below W0.heap.size W0 W5) := Lib.hid (HB0_4.out.trans ((hb : Below W4.heap.size W4 W5).mono HB0_4.out.size))
        have HB1_5 : Hid (Below W1.heap.size W1 W5) := Lib.hid (HB1_4.out.trans ((hb : Below W4.heap.size W4 W5).mono HB1_4.out.size))
        have HB2_5 : Hid (Below W2.heap.size W2 W5) := Lib.hid (HB2_4.out.trans ((hb : Below W4.heap.size W4 W5).mono HB2_4.out.size))
        have HB3_5 : Hid (Below W3.heap.size W3 W5) := Lib.hid (HB3_4.out.trans ((hb : Below W4.heap.size W4 W5).mono HB3_4.out.size))
        have HB4_5 : Hid (Below W4.heap.size W4 W5) := Lib.hid (hb)
        clear hb
        refine hK.out _ _ HB1_5.out (fun _ => ?_)
        clear hK K
        go_simp
        refine wpAnyH_take (i := 12) (v := .bool true) rfl (by kernel_rfl) (by kernel_rfl) (by kernel_rfl) (fun _ _ _ h => h) (Or.inl ⟨by kernel_rfl, ?h12⟩) HB1_5.out ?_
        case h12 => (intro WX hWX; go_simp)
        go_simp
        refine wpAnyH_take (i := 13) (v := .bool true) rfl (by kernel_rfl) (by kernel_rfl) (by kernel_rfl) (fun _ _ _ h => h) (Or.inl ⟨by kernel_rfl, ?h13⟩) HB1_5.out ?_
        case h13 => (intro WX hWX; go_simp)
        go_simp
        refine wpAnyH_take (i := 14) (v := .bool true) rfl (by kernel_rfl) (by kernel_rfl) (by kernel_rfl) (fun _ _ _ h => h) (Or.inl ⟨by kernel_rfl, ?h14⟩) HB1_5.out ?_
        case h14 => (intro WX hWX; go_simp)
        go_simp
        refine wpAnyH_take (i := 15) (v := undef) rfl (by kernel_rfl) (by kernel_rfl) (by kernel_rfl) (fun _ _ _ h => h) (Or.inr ⟨by kernel_rfl, rfl⟩) HB1_5.out ?_
        go_simp
        refine wpAnyH_take (i := 16) (v := undef) rfl (by kernel_rfl) (by kernel_rfl) (by kernel_rfl) (fun _ _ _ h => h) (Or.inr ⟨by kernel_rfl, rfl⟩) HB1_5.out ?_
        go_simp
        refine wpAnyH_take (i := 17) (v := undef) rfl (by kernel_rfl) (by kernel_rfl) (by kernel_rfl) (fun _ _ _ h => h) (Or.inr ⟨by kernel_rfl, rfl⟩) HB1_5.out ?_
        go_simp
        refine wpAnyH_take (i := 18) (v := .bool true) rfl (by kernel_rfl) (by kernel_rfl) (by kernel_rfl) (fun _ _ _ h => h) (Or.inl ⟨by kernel_rfl, ?h18⟩) HB1_5.out ?_
        case h18 => (intro WX hWX; go_simp)
        go_simp
        refine wpAnyH_take (i := 19) (v := .bool true) rfl (by kernel_rfl) (by kernel_rfl) (by kernel_rfl) (fun _ _ _ h => h) (Or.inl ⟨by kernel_rfl, ?h19⟩) HB1_5.out ?_
        case h19 => (intro WX hWX; go_simp)
        go_simp
        refine wpAnyH_take (i := 20) (v := .bool true) rfl (by kernel_rfl) (by kernel_rfl) (by kernel_rfl) (fun _ _ _ h => h) (Or.inl ⟨by kernel_rfl, ?h20⟩) HB1_5.out ?_
        case h20 => (intro WX hWX; go_simp)
        go_simp
        refine wpAnyH_take (i := 21) (v := .agg #[.int .i64 al, .int .i64 as_, .int .i64 an]) rfl (by kernel_rfl) (by kernel_rfl) (by kernel_rfl) (fun _ _ _ h => h) (Or.inl ⟨by kernel_rfl, ?h21⟩) HB1_5.out ?_
        case h21 => (intro WX hWX; obtain ⟨y0, y1, y2⟩ := cells3 (HX0_0.out WX (HB0_1.out.trans ((show Below W1.heap.size W1 WX from hWX).mono HB0_1.out.size))); go_simp)
        go_simp
        refine wpAnyH_take (i := 22) (v := .agg #[.int .i64 bl, .int .i64 bs, .int .i64 bn]) rfl (by kernel_rfl) (by kernel_rfl) (by kernel_rfl) (fun _ _ _ h => h) (Or.inl ⟨by kernel_rfl, ?h22⟩) HB1_5.out ?_
        case h22 => (intro WX hWX; obtain ⟨y0, y1, y2⟩ := cells3 (HX1_0.out WX (HB0_1.out.trans ((show Below W1.heap.size W1 WX from hWX).mono HB0_1.out.size))); go_simp)
        go_simp
        refine wpAnyH_take (i := 29) (v := .agg #[.int .i64 al, .int .i64 as_, .int .i64 an]) rfl (by kernel_rfl) (by kernel_rfl) (by kernel_rfl) (fun _ _ _ h => h) (Or.inl ⟨by kernel_rfl, ?h29⟩) HB1_5.out ?_
        case h29 => (intro WX hWX; obtain ⟨y0, y1, y2⟩ := cells3 (HX0_0.out WX (HB0_1.out.trans ((show Below W1.heap.size W1 WX from hWX).mono HB0_1.out.size))); go_simp)
        go_simp
        refine wpAnyH_take (i := 30) (v := .agg #[.int .i64 bl, .int .i64 bs, .int .i64 bn]) rfl (by kernel_rfl) (by kernel_rfl) (by kernel_rfl) (fun _ _ _ h => h) (Or.inl ⟨by kernel_rfl, ?h30⟩) HB1_5.out ?_
        case h30 => (intro WX hWX; obtain ⟨y0, y1, y2⟩ := cells3 (HX1_0.out WX (HB0_1.out.trans ((show Below W1.heap.size W1 WX from hWX).mono HB0_1.out.size))); go_simp)
        go_simp
        refine wpAnyH_take (i := 31) (v := .bool true) rfl (by kernel_rfl) (by kernel_rfl) (by kernel_rfl) (fun _ _ _ h => h) (Or.inl ⟨by kernel_rfl, ?h31⟩) HB1_5.out ?_
        case h31 => (intro WX hWX; go_simp)
        go_simp
        refine wpAnyH_ready (rs := [23]) (by kernel_rfl) (by simp) ?_
        refine AllReadyH.cons rfl (fun K hK => ?_) AllReadyH.nil
        go_simp
        go_wp2_with (refine Calls.mono (covers_is al as_ an bl bs bn HCvab.out _) ?_; rintro e6 W6 ⟨rfl, hb⟩)
        have HBw6 : Hid (Below w.heap.size w W6) := Lib.hid (HBw5.out.trans ((hb : Below W5.heap.size W5 W6).mono HBw5.out.size))
        have HB0_6 : Hid (Below W0.heap.size W0 W6) := Lib.hid (HB0_5.out.trans ((hb : Below W5.heap.size W5 W6).mono HB0_5.out.size))
        have HB1_6 : Hid (Below W1.heap.size W1 W6) := Lib.hid (HB1_5.out.trans ((hb : Below W5.heap.size W5 W6).mono HB1_5.out.size))
        have HB2_6 : Hid (Below W2.heap.size W2 W6) := Lib.hid (HB2_5.out.trans ((hb : Below W5.heap.size W5 W6).mono HB2_5.out.size))
        have HB3_6 : Hid (Below W3.heap.size W3 W6) := Lib.hid (HB3_5.out.trans ((hb : Below W5.heap.size W5 W6).mono HB3_5.out.size))
        have HB4_6 : Hid (Below W4.heap.size W4 W6) := Lib.hid (HB4_5.out.trans ((hb : Below W5.heap.size W5 W6).mono HB4_5.out.size))
        have HB5_6 : Hid (Below W5.heap.size W5 W6) := Lib.hid (hb)
        clear hb
        refine hK.out _ _ HB1_6.out (fun _ => ?_)
        clear hK K
        go_simp
        refine wpAnyH_take (i := 24) (v := .bool true) rfl (by kernel_rfl) (by kernel_rfl) (by kernel_rfl) (fun _ _ _ h => h) (Or.inl ⟨by kernel_rfl, ?h24⟩) HB1_6.out ?_
        case h24 => (intro WX hWX; go_simp)
        go_simp
        refine wpAnyH_take (i := 25) (v := .agg #[.int .i64 bl, .int .i64 bs, .int .i64 bn]) rfl (by kernel_rfl) (by kernel_rfl) (by kernel_rfl) (fun _ _ _ h => h) (Or.inl ⟨by kernel_rfl, ?h25⟩) HB1_6.out ?_
        case h25 => (intro WX hWX; obtain ⟨y0, y1, y2⟩ := cells3 (HX1_0.out WX (HB0_1.out.trans ((show Below W1.heap.size W1 WX from hWX).mono HB0_1.out.size))); go_simp)
        go_simp
        refine wpAnyH_take (i := 26) (v := .agg #[.int .i64 al, .int .i64 as_, .int .i64 an]) rfl (by kernel_rfl) (by kernel_rfl) (by kernel_rfl) (fun _ _ _ h => h) (Or.inl ⟨by kernel_rfl, ?h26⟩) HB1_6.out ?_
        case h26 => (intro WX hWX; obtain ⟨y0, y1, y2⟩ := cells3 (HX0_0.out WX (HB0_1.out.trans ((show Below W1.heap.size W1 WX from hWX).mono HB0_1.out.size))); go_simp)
        go_simp
        refine wpAnyH_ready (rs := [27]) (by kernel_rfl) (by simp) ?_
        refine AllReadyH.cons rfl (fun K hK => ?_) AllReadyH.nil
        go_simp
        go_wp2_with (refine Calls.mono (covers_is bl bs bn al as_ an HCvba.out _) ?_; rintro e7 W7 ⟨rfl, hb⟩)
        have HBw7 : Hid (Below w.heap.size w W7) := Lib.hid (HBw6.out.trans ((hb : Below W6.heap.size W6 W7).mono HBw6.out.size))
        have HB0_7 : Hid (Below W0.heap.size W0 W7) := Lib.hid (HB0_6.out.trans ((hb : Below W6.heap.size W6 W7).mono HB0_6.out.size))
        have HB1_7 : Hid (Below W1.heap.size W1 W7) := Lib.hid (HB1_6.out.trans ((hb : Below W6.heap.size W6 W7).mono HB1_6.out.size))
        have HB2_7 : Hid (Below W2.heap.size W2 W7) := Lib.hid (HB2_6.out.trans ((hb : Below W6.heap.size W6 W7).mono HB2_6.out.size))
        have HB3_7 : Hid (Below W3.heap.size W3 W7) := Lib.hid (HB3_6.out.trans ((hb : Below W6.heap.size W6 W7).mono HB3_6.out.size))
        have HB4_7 : Hid (Below W4.heap.size W4 W7) := Lib.hid (HB4_6.out.trans ((hb : Below W6.heap.size W6 W7).mono HB4_6.out.size))
        have HB5_7 : Hid (Below W5.heap.size W5 W7) := Lib.hid (HB5_6.out.trans ((hb : Below W6.heap.size W6 W7).mono HB5_6.out.size))
        have HB6_7 : Hid (Below W6.heap.size W6 W7) := Lib.hid (hb)
        clear hb
        refine hK.out _ _ HB1_7.out (fun _ => ?_)
        clear hK K
        go_simp
        refine wpAnyH_take (i := 28) (v := .bool true) rfl (by kernel_rfl) (by kernel_rfl) (by kernel_rfl) (fun _ _ _ h => h) (Or.inl ⟨by kernel_rfl, ?h28⟩) HB1_7.out ?_
        case h28 => (intro WX hWX; go_simp)
        go_simp
        refine wpAnyH_take (i := 32) (v := .bool true) rfl (by kernel_rfl) (by kernel_rfl) (by kernel_rfl) (fun _ _ _ h => h) (Or.inl ⟨by kernel_rfl, ?h32⟩) HB1_7.out ?_
        case h32 => (intro WX hWX; go_simp)
        go_simp
        refine wpAnyH_take (i := 33) (v := .bool true) rfl (by kernel_rfl) (by kernel_rfl) (by kernel_rfl) (fun _ _ _ h => h) (Or.inl ⟨by kernel_rfl, ?h33⟩) HB1_7.out ?_
        case h33 => (intro WX hWX; go_simp)
        go_simp
        refine wpAnyH_take (i := 34) (v := .bool true) rfl (by kernel_rfl) (by kernel_rfl) (by kernel_rfl) (fun _ _ _ h => h) (Or.inl ⟨by kernel_rfl, ?h34⟩) HB1_7.out ?_
        case h34 => (intro WX hWX; go_simp)
        go_simp
        refine wpAnyH_done (by kernel_rfl) ?_ _
        go_wp2_with fail
        go_ret
        exact ⟨rec.retB (by first | rfl | (simp; done) | (simp; omega)), HBw7.out⟩
    · have HCvac : Hid (covers ⟨al, as_, an⟩ ⟨cl, cs_, cn⟩ = true) := Lib.hid (covers_trans HCvab.out HCvbc.out)
      obtain ⟨cvba, HCvba⟩ : ∃ x, Hid (covers ⟨bl, bs, bn⟩ ⟨al, as_, an⟩ = x) := ⟨_, Lib.hid rfl⟩
      rcases cvba with _ | _
      · have heq4 : ∀ W, (Op.equalIn 10000 27 (.agg #[.int .i64 al, .int .i64 as_, .int .i64 an]) (.agg #[.int .i64 bl, .int .i64 bs, .int .i64 bn])).run Try.prog W = .ok false W := fun W => eq3_of rfl rfl HA.out HB.out (decide_eq_false (fun h => by have k := HCvba.out; rw [← h, covers_self] at k; simp at k)) W
        go_upto_region 3 with fail
        refine wp_region_held_drew (S := fun W => Below W1.heap.size W1 W) (by kernel_rfl) (Below.refl _ _).drew (fun _ => ?_)
        obtain ⟨W2, hW2⟩ : ∃ x, x = W1.drew := ⟨_, rfl⟩
        rw [← hW2]
        have HBw2 : Hid (Below w.heap.size w W2) := Lib.hid (HBw1.out.trans ((by rw [hW2]; exact (Below.refl _ _).drew : Below W1.heap.size W1 W2).mono HBw1.out.size))
        have HB0_2 : Hid (Below W0.heap.size W0 W2) := Lib.hid (HB0_1.out.trans ((by rw [hW2]; exact (Below.refl _ _).drew : Below W1.heap.size W1 W2).mono HB0_1.out.size))
        have HB1_2 : Hid (Below W1.heap.size W1 W2) := Lib.hid (by rw [hW2]; exact (Below.refl _ _).drew)
        clear hW2
        refine wpAnyH_take (i := 0) (v := .agg #[.int .i64 al, .int .i64 as_, .int .i64 an]) rfl (by kernel_rfl) (by kernel_rfl) (by kernel_rfl) (fun _ _ _ h => h) (Or.inl ⟨by kernel_rfl, ?h0⟩) HB1_2.out ?_
        case h0 => (intro WX hWX; obtain ⟨y0, y1, y2⟩ := cells3 (HX0_0.out WX (HB0_1.out.trans ((show Below W1.heap.size W1 WX from hWX).mono HB0_1.out.size))); go_simp)
        go_simp
        refine wpAnyH_take (i := 1) (v := .agg #[.int .i64 al, .int .i64 as_, .int .i64 an]) rfl (by kernel_rfl) (by kernel_rfl) (by kernel_rfl) (fun _ _ _ h => h) (Or.inl ⟨by kernel_rfl, ?h1⟩) HB1_2.out ?_
        case h1 => (intro WX hWX; obtain ⟨y0, y1, y2⟩ := cells3 (HX0_0.out WX (HB0_1.out.trans ((show Below W1.heap.size W1 WX from hWX).mono HB0_1.out.size))); go_simp)
        go_simp
        refine wpAnyH_ready (rs := [2]) (by kernel_rfl) (by simp) ?_
        refine AllReadyH.cons rfl (fun K hK => ?_) AllReadyH.nil
        go_simp
        go_wp2_with (refine Calls.mono (covers_is al as_ an al as_ an HCs.out _) ?_; rintro e3 W3 ⟨rfl, hb⟩)
        have HBw3 : Hid (Below w.heap.size w W3) := Lib.hid (HBw2.out.trans ((hb : Below W2.heap.size W2 W3).mono HBw2.out.size))
        have HB0_3 : Hid (Below W0.heap.size W0 W3) := Lib.hid (HB0_2.out.trans ((hb : Below W2.heap.size W2 W3).mono HB0_2.out.size))
        have HB1_3 : Hid (Below W1.heap.size W1 W3) := Lib.hid (HB1_2.out.trans ((hb : Below W2.heap.size W2 W3).mono HB1_2.out.size))
        have HB2_3 : Hid (Below W2.heap.size W2 W3) := Lib.hid (hb)
        clear hb
        refine hK.out _ _ HB1_3.out (fun _ => ?_)
        clear hK K
        go_simp
        refine wpAnyH_take (i := 3) (v := .bool true) rfl (by kernel_rfl) (by kernel_rfl) (by kernel_rfl) (fun _ _ _ h => h) (Or.inl ⟨by kernel_rfl, ?h3⟩) HB1_3.out ?_
        case h3 => (intro WX hWX; go_simp)
        go_simp
        refine wpAnyH_take (i := 4) (v := .agg #[.int .i64 al, .int .i64 as_, .int .i64 an]) rfl (by kernel_rfl) (by kernel_rfl) (by kernel_rfl) (fun _ _ _ h => h) (Or.inl ⟨by kernel_rfl, ?h4⟩) HB1_3.out ?_
        case h4 => (intro WX hWX; obtain ⟨y0, y1, y2⟩ := cells3 (HX0_0.out WX (HB0_1.out.trans ((show Below W1.heap.size W1 WX from hWX).mono HB0_1.out.size))); go_simp)
        go_simp
        refine wpAnyH_take (i := 5) (v := .agg #[.int .i64 bl, .int .i64 bs, .int .i64 bn]) rfl (by kernel_rfl) (by kernel_rfl) (by kernel_rfl) (fun _ _ _ h => h) (Or.inl ⟨by kernel_rfl, ?h5⟩) HB1_3.out ?_
        case h5 => (intro WX hWX; obtain ⟨y0, y1, y2⟩ := cells3 (HX1_0.out WX (HB0_1.out.trans ((show Below W1.heap.size W1 WX from hWX).mono HB0_1.out.size))); go_simp)
        go_simp
        refine wpAnyH_ready (rs := [6]) (by kernel_rfl) (by simp) ?_
        refine AllReadyH.cons rfl (fun K hK => ?_) AllReadyH.nil
        go_simp
        go_wp2_with (refine Calls.mono (covers_is al as_ an bl bs bn HCvab.out _) ?_; rintro e4 W4 ⟨rfl, hb⟩)
        have HBw4 : Hid (Below w.heap.size w W4) := Lib.hid (HBw3.out.trans ((hb : Below W3.heap.size W3 W4).mono HBw3.out.size))
        have HB0_4 : Hid (Below W0.heap.size W0 W4) := Lib.hid (HB0_3.out.trans ((hb : Below W3.heap.size W3 W4).mono HB0_3.out.size))
        have HB1_4 : Hid (Below W1.heap.size W1 W4) := Lib.hid (HB1_3.out.trans ((hb : Below W3.heap.size W3 W4).mono HB1_3.out.size))
        have HB2_4 : Hid (Below W2.heap.size W2 W4) := Lib.hid (HB2_3.out.trans ((hb : Below W3.heap.size W3 W4).mono HB2_3.out.size))
        have HB3_4 : Hid (Below W3.heap.size W3 W4) := Lib.hid (hb)
        clear hb
        refine hK.out _ _ HB1_4.out (fun _ => ?_)
        clear hK K
        go_simp
        refine wpAnyH_take (i := 7) (v := .bool false) rfl (by kernel_rfl) (by kernel_rfl) (by kernel_rfl) (fun _ _ _ h => h) (Or.inl ⟨by kernel_rfl, ?h7⟩) HB1_4.out ?_
        case h7 => (intro WX hWX; go_simp)
        go_simp
        refine wpAnyH_take (i := 8) (v := .bool false) rfl (by kernel_rfl) (by kernel_rfl) (by kernel_rfl) (fun _ _ _ h => h) (Or.inl ⟨by kernel_rfl, ?h8⟩) HB1_4.out ?_
        case h8 => (intro WX hWX; go_simp)
        go_simp
        refine wpAnyH_take (i := 9) (v := .agg #[.int .i64 bl, .int .i64 bs, .int .i64 bn]) rfl (by kernel_rfl) (by kernel_rfl) (by kernel_rfl) (fun _ _ _ h => h) (Or.inl ⟨by kernel_rfl, ?h9⟩) HB1_4.out ?_
        case h9 => (intro WX hWX; obtain ⟨y0, y1, y2⟩ := cells3 (HX1_0.out WX (HB0_1.out.trans ((show Below W1.heap.size W1 WX from hWX).mono HB0_1.out.size))); go_simp)
        go_simp
        refine wpAnyH_take (i := 10) (v := .agg #[.int .i64 cl, .int .i64 cs_, .int .i64 cn]) rfl (by kernel_rfl) (by kernel_rfl) (by kernel_rfl) (fun _ _ _ h => h) (Or.inl ⟨by kernel_rfl, ?h10⟩) HB1_4.out ?_
        case h10 => (intro WX hWX; obtain ⟨y0, y1, y2⟩ := cells3 (HX2_0.out WX (HB0_1.out.trans ((show Below W1.heap.size W1 WX from hWX).mono HB0_1.out.size))); go_simp)
        go_simp
        refine wpAnyH_ready (rs := [11]) (by kernel_rfl) (by simp) ?_
        refine AllReadyH.cons rfl (fun K hK => ?_) AllReadyH.nil
        go_simp
        go_wp2_with (refine Calls.mono (covers_is bl bs bn cl cs_ cn HCvbc.out _) ?_; rintro e5 W5 ⟨rfl, hb⟩)
        have HBw5 : Hid (Below w.heap.size w W5) := Lib.hid (HBw4.out.trans ((hb : Below W4.heap.size W4 W5).mono HBw4.out.size))
        have HB0_5 : Hid (Below W0.heap.size W0 W5) := Lib.hid (HB0_4.out.trans ((hb : Below W4.heap.size W4 W5).mono HB0_4.out.size))
        have HB1_5 : Hid (Below W1.heap.size W1 W5) := Lib.hid (HB1_4.out.trans ((hb : Below W4.heap.size W4 W5).mono HB1_4.out.size))
        have HB2_5 : Hid (Below W2.heap.size W2 W5) := Lib.hid (HB2_4.out.trans ((hb : Below W4.heap.size W4 W5).mono HB2_4.out.size))
        have HB3_5 : Hid (Below W3.heap.size W3 W5) := Lib.hid (HB3_4.out.trans ((hb : Below W4.heap.size W4 W5).mono HB3_4.out.size))
        have HB4_5 : Hid (Below W4.heap.size W4 W5) := Lib.hid (hb)
        clear hb
        refine hK.out _ _ HB1_5.out (fun _ => ?_)
        clear hK K
        go_simp
        refine wpAnyH_take (i := 12) (v := .bool false) rfl (by kernel_rfl) (by kernel_rfl) (by kernel_rfl) (fun _ _ _ h => h) (Or.inl ⟨by kernel_rfl, ?h12⟩) HB1_5.out ?_
        case h12 => (intro WX hWX; go_simp)
        go_simp
        refine wpAnyH_take (i := 13) (v := .bool false) rfl (by kernel_rfl) (by kernel_rfl) (by kernel_rfl) (fun _ _ _ h => h) (Or.inl ⟨by kernel_rfl, ?h13⟩) HB1_5.out ?_
        case h13 => (intro WX hWX; go_simp)
        go_simp
        refine wpAnyH_take (i := 14) (v := .bool false) rfl (by kernel_rfl) (by kernel_rfl) (by kernel_rfl) (fun _ _ _ h => h) (Or.inl ⟨by kernel_rfl, ?h14⟩) HB1_5.out ?_
        case h14 => (intro WX hWX; go_simp)
        go_simp
        refine wpAnyH_take (i := 15) (v := .agg #[.int .i64 al, .int .i64 as_, .int .i64 an]) rfl (by kernel_rfl) (by kernel_rfl) (by kernel_rfl) (fun _ _ _ h => h) (Or.inl ⟨by kernel_rfl, ?h15⟩) HB1_5.out ?_
        case h15 => (intro WX hWX; obtain ⟨y0, y1, y2⟩ := cells3 (HX0_0.out WX (HB0_1.out.trans ((show Below W1.heap.size W1 WX from hWX).mono HB0_1.out.size))); go_simp)
        go_simp
        refine wpAnyH_take (i := 16) (v := .agg #[.int .i64 cl, .int .i64 cs_, .int .i64 cn]) rfl (by kernel_rfl) (by kernel_rfl) (by kernel_rfl) (fun _ _ _ h => h) (Or.inl ⟨by kernel_rfl, ?h16⟩) HB1_5.out ?_
        case h16 => (intro WX hWX; obtain ⟨y0, y1, y2⟩ := cells3 (HX2_0.out WX (HB0_1.out.trans ((show Below W1.heap.size W1 WX from hWX).mono HB0_1.out.size))); go_simp)
        go_simp
        refine wpAnyH_ready (rs := [17]) (by kernel_rfl) (by simp) ?_
        refine AllReadyH.cons rfl (fun K hK => ?_) AllReadyH.nil
        go_simp
        go_wp2_with (refine Calls.mono (covers_is al as_ an cl cs_ cn HCvac.out _) ?_; rintro e6 W6 ⟨rfl, hb⟩)
        have HBw6 : Hid (Below w.heap.size w W6) := Lib.hid (HBw5.out.trans ((hb : Below W5.heap.size W5 W6).mono HBw5.out.size))
        have HB0_6 : Hid (Below W0.heap.size W0 W6) := Lib.hid (HB0_5.out.trans ((hb : Below W5.heap.size W5 W6).mono HB0_5.out.size))
        have HB1_6 : Hid (Below W1.heap.size W1 W6) := Lib.hid (HB1_5.out.trans ((hb : Below W5.heap.size W5 W6).mono HB1_5.out.size))
        have HB2_6 : Hid (Below W2.heap.size W2 W6) := Lib.hid (HB2_5.out.trans ((hb : Below W5.heap.size W5 W6).mono HB2_5.out.size))
        have HB3_6 : Hid (Below W3.heap.size W3 W6) := Lib.hid (HB3_5.out.trans ((hb : Below W5.heap.size W5 W6).mono HB3_5.out.size))
        have HB4_6 : Hid (Below W4.heap.size W4 W6) := Lib.hid (HB4_5.out.trans ((hb : Below W5.heap.size W5 W6).mono HB4_5.out.size))
        have HB5_6 : Hid (Below W5.heap.size W5 W6) := Lib.hid (hb)
        clear hb
        refine hK.out _ _ HB1_6.out (fun _ => ?_)
        clear hK K
        go_simp
        refine wpAnyH_take (i := 18) (v := .bool true) rfl (by kernel_rfl) (by kernel_rfl) (by kernel_rfl) (fun _ _ _ h => h) (Or.inl ⟨by kernel_rfl, ?h18⟩) HB1_6.out ?_
        case h18 => (intro WX hWX; go_simp)
        go_simp
        refine wpAnyH_take (i := 19) (v := .bool true) rfl (by kernel_rfl) (by kernel_rfl) (by kernel_rfl) (fun _ _ _ h => h) (Or.inl ⟨by kernel_rfl, ?h19⟩) HB1_6.out ?_
        case h19 => (intro WX hWX; go_simp)
        go_simp
        refine wpAnyH_take (i := 20) (v := .bool true) rfl (by kernel_rfl) (by kernel_rfl) (by kernel_rfl) (fun _ _ _ h => h) (Or.inl ⟨by kernel_rfl, ?h20⟩) HB1_6.out ?_
        case h20 => (intro WX hWX; go_simp)
        go_simp
        refine wpAnyH_take (i := 21) (v := .agg #[.int .i64 al, .int .i64 as_, .int .i64 an]) rfl (by kernel_rfl) (by kernel_rfl) (by kernel_rfl) (fun _ _ _ h => h) (Or.inl ⟨by kernel_rfl, ?h21⟩) HB1_6.out ?_
        case h21 => (intro WX hWX; obtain ⟨y0, y1, y2⟩ := cells3 (HX0_0.out WX (HB0_1.out.trans ((show Below W1.heap.size W1 WX from hWX).mono HB0_1.out.size))); go_simp)
        go_simp
        refine wpAnyH_take (i := 22) (v := .agg #[.int .i64 bl, .int .i64 bs, .int .i64 bn]) rfl (by kernel_rfl) (by kernel_rfl) (by kernel_rfl) (fun _ _ _ h => h) (Or.inl ⟨by kernel_rfl, ?h22⟩) HB1_6.out ?_
        case h22 => (intro WX hWX; obtain ⟨y0, y1, y2⟩ := cells3 (HX1_0.out WX (HB0_1.out.trans ((show Below W1.heap.size W1 WX from hWX).mono HB0_1.out.size))); go_simp)
        go_simp
        refine wpAnyH_take (i := 29) (v := .agg #[.int .i64 al, .int .i64 as_, .int .i64 an]) rfl (by kernel_rfl) (by kernel_rfl) (by kernel_rfl) (fun _ _ _ h => h) (Or.inl ⟨by kernel_rfl, ?h29⟩) HB1_6.out ?_
        case h29 => (intro WX hWX; obtain ⟨y0, y1, y2⟩ := cells3 (HX0_0.out WX (HB0_1.out.trans ((show Below W1.heap.size W1 WX from hWX).mono HB0_1.out.size))); go_simp)
        go_simp
        refine wpAnyH_take (i := 30) (v := .agg #[.int .i64 bl, .int .i64 bs, .int .i64 bn]) rfl (by kernel_rfl) (by kernel_rfl) (by kernel_rfl) (fun _ _ _ h => h) (Or.inl ⟨by kernel_rfl, ?h30⟩) HB1_6.out ?_
        case h30 => (intro WX hWX; obtain ⟨y0, y1, y2⟩ := cells3 (HX1_0.out WX (HB0_1.out.trans ((show Below W1.heap.size W1 WX from hWX).mono HB0_1.out.size))); go_simp)
        go_simp
        refine wpAnyH_take (i := 31) (v := .bool false) rfl (by kernel_rfl) (by kernel_rfl) (by kernel_rfl) (fun _ _ _ h => h) (Or.inl ⟨by kernel_rfl, ?h31⟩) HB1_6.out ?_
        case h31 => (intro WX hWX; go_simp)
        go_simp
        refine wpAnyH_ready (rs := [23]) (by kernel_rfl) (by simp) ?_
        refine AllReadyH.cons rfl (fun K hK => ?_) AllReadyH.nil
        go_simp
        go_wp2_with (refine Calls.mono (covers_is al as_ an bl bs bn HCvab.out _) ?_; rintro e7 W7 ⟨rfl, hb⟩)
        have HBw7 : Hid (Below w.heap.size w W7) := Lib.hid (HBw6.out.trans ((hb : Below W6.heap.size W6 W7).mono HBw6.out.size))
        have HB0_7 : Hid (Below W0.heap.size W0 W7) := Lib.hid (HB0_6.out.trans ((hb : Below W6.heap.size W6 W7).mono HB0_6.out.size))
        have HB1_7 : Hid (Below W1.heap.size W1 W7) := Lib.hid (HB1_6.out.trans ((hb : Below W6.heap.size W6 W7).mono HB1_6.out.size))
        have HB2_7 : Hid (Below W2.heap.size W2 W7) := Lib.hid (HB2_6.out.trans ((hb : Below W6.heap.size W6 W7).mono HB2_6.out.size))
        have HB3_7 : Hid (Below W3.heap.size W3 W7) := Lib.hid (HB3_6.out.trans ((hb : Below W6.heap.size W6 W7).mono HB3_6.out.size))
        have HB4_7 : Hid (Below W4.heap.size W4 W7) := Lib.hid (HB4_6.out.trans ((hb : Below W6.heap.size W6 W7).mono HB4_6.out.size))
        have HB5_7 : Hid (Below W5.heap.size W5 W7) := Lib.hid (HB5_6.out.trans ((hb : Below W6.heap.size W6 W7).mono HB5_6.out.size))
        have HB6_7 : Hid (Below W6.heap.size W6 W7) := Lib.hid (hb)
        clear hb
        refine hK.out _ _ HB1_7.out (fun _ => ?_)
        clear hK K
        go_simp
        refine wpAnyH_take (i := 24) (v := .bool true) rfl (by kernel_rfl) (by kernel_rfl) (by kernel_rfl) (fun _ _ _ h => h) (Or.inl ⟨by kernel_rfl, ?h24⟩) HB1_7.out ?_
        case h24 => (intro WX hWX; go_simp)
        go_simp
        refine wpAnyH_take (i := 25) (v := .agg #[.int .i64 bl, .int .i64 bs, .int .i64 bn]) rfl (by kernel_rfl) (by kernel_rfl) (by kernel_rfl) (fun _ _ _ h => h) (Or.inl ⟨by kernel_rfl, ?h25⟩) HB1_7.out ?_
        case h25 => (intro WX hWX; obtain ⟨y0, y1, y2⟩ := cells3 (HX1_0.out WX (HB0_1.out.trans ((show Below W1.heap.size W1 WX from hWX).mono HB0_1.out.size))); go_simp)
        go_simp
        refine wpAnyH_take (i := 26) (v := .agg #[.int .i64 al, .int .i64 as_, .int .i64 an]) rfl (by kernel_rfl) (by kernel_rfl) (by kernel_rfl) (fun _ _ _ h => h) (Or.inl ⟨by kernel_rfl, ?h26⟩) HB1_7.out ?_
        case h26 => (intro WX hWX; obtain ⟨y0, y1, y2⟩ := cells3 (HX0_0.out WX (HB0_1.out.trans ((show Below W1.heap.size W1 WX from hWX).mono HB0_1.out.size))); go_simp)
        go_simp
        refine wpAnyH_ready (rs := [27]) (by kernel_rfl) (by simp) ?_
        refine AllReadyH.cons rfl (fun K hK => ?_) AllReadyH.nil
        go_simp
        go_wp2_with (refine Calls.mono (covers_is bl bs bn al as_ an HCvba.out _) ?_; rintro e8 W8 ⟨rfl, hb⟩)
        have HBw8 : Hid (Below w.heap.size w W8) := Lib.hid (HBw7.out.trans ((hb : Below W7.heap.size W7 W8).mono HBw7.out.size))
        have HB0_8 : Hid (Below W0.heap.size W0 W8) := Lib.hid (HB0_7.out.trans ((hb : Below W7.heap.size W7 W8).mono HB0_7.out.size))
        have HB1_8 : Hid (Below W1.heap.size W1 W8) := Lib.hid (HB1_7.out.trans ((hb : Below W7.heap.size W7 W8).mono HB1_7.out.size))
        have HB2_8 : Hid (Below W2.heap.size W2 W8) := Lib.hid (HB2_7.out.trans ((hb : Below W7.heap.size W7 W8).mono HB2_7.out.size))
        have HB3_8 : Hid (Below W3.heap.size W3 W8) := Lib.hid (HB3_7.out.trans ((hb : Below W7.heap.size W7 W8).mono HB3_7.out.size))
        have HB4_8 : Hid (Below W4.heap.size W4 W8) := Lib.hid (HB4_7.out.trans ((hb : Below W7.heap.size W7 W8).mono HB4_7.out.size))
        have HB5_8 : Hid (Below W5.heap.size W5 W8) := Lib.hid (HB5_7.out.trans ((hb : Below W7.heap.size W7 W8).mono HB5_7.out.size))
        have HB6_8 : Hid (Below W6.heap.size W6 W8) := Lib.hid (HB6_7.out.trans ((hb : Below W7.heap.size W7 W8).mono HB6_7.out.size))
        have HB7_8 : Hid (Below W7.heap.size W7 W8) := Lib.hid (hb)
        clear hb
        refine hK.out _ _ HB1_8.out (fun _ => ?_)
        clear hK K
        go_simp
        refine wpAnyH_take (i := 28) (v := .bool false) rfl (by kernel_rfl) (by kernel_rfl) (by kernel_rfl) (fun _ _ _ h => h) (Or.inl ⟨by kernel_rfl, ?h28⟩) HB1_8.out ?_
        case h28 => (intro WX hWX; go_simp)
        go_simp
        refine wpAnyH_take (i := 32) (v := .bool true) rfl (by kernel_rfl) (by kernel_rfl) (by kernel_rfl) (fun _ _ _ h => h) (Or.inl ⟨by kernel_rfl, ?h32⟩) HB1_8.out ?_
        case h32 => (intro WX hWX; go_simp)
        go_simp
        refine wpAnyH_take (i := 33) (v := .bool true) rfl (by kernel_rfl) (by kernel_rfl) (by kernel_rfl) (fun _ _ _ h => h) (Or.inl ⟨by kernel_rfl, ?h33⟩) HB1_8.out ?_
        case h33 => (intro WX hWX; go_simp)
        go_simp
        refine wpAnyH_take (i := 34) (v := .bool true) rfl (by kernel_rfl) (by kernel_rfl) (by kernel_rfl) (fun _ _ _ h => h) (Or.inl ⟨by kernel_rfl, ?h34⟩) HB1_8.out ?_
        case h34 => (intro WX hWX; go_simp)
        go_simp
        refine wpAnyH_done (by kernel_rfl) ?_ _
        go_wp2_with fail
        go_ret
        exact ⟨rec.retB (by first | rfl | (simp; done) | (simp; omega)), HBw8.out⟩
      · have heq5 : ∀ W, (Op.equalIn 10000 27 (.agg #[.int .i64 al, .int .i64 as_, .int .i64 an]) (.agg #[.int .i64 bl, .int .i64 bs, .int .i64 bn])).run Try.prog W = .ok true W := fun W => eq3_of rfl rfl HA.out HB.out (decide_eq_true (covers_anti HCvab.out HCvba.out)) W
        go_upto_region 3 with fail
        refine wp_region_held_drew (S := fun W => Below W1.heap.size W1 W) (by kernel_rfl) (Below.refl _ _).drew (fun _ => ?_)
        obtain ⟨W2, hW2⟩ : ∃ x, x = W1.drew := ⟨_, rfl⟩
        rw [← hW2]
        have HBw2 : Hid (Below w.heap.size w W2) := Lib.hid (HBw1.out.trans ((by rw [hW2]; exact (Below.refl _ _).drew : Below W1.heap.size W1 W2).mono HBw1.out.size))
        have HB0_2 : Hid (Below W0.heap.size W0 W2) := Lib.hid (HB0_1.out.trans ((by rw [hW2]; exact (Below.refl _ _).drew : Below W1.heap.size W1 W2).mono HB0_1.out.size))
        have HB1_2 : Hid (Below W1.heap.size W1 W2) := Lib.hid (by rw [hW2]; exact (Below.refl _ _).drew)
        clear hW2
        refine wpAnyH_take (i := 0) (v := .agg #[.int .i64 al, .int .i64 as_, .int .i64 an]) rfl (by kernel_rfl) (by kernel_rfl) (by kernel_rfl) (fun _ _ _ h => h) (Or.inl ⟨by kernel_rfl, ?h0⟩) HB1_2.out ?_
        case h0 => (intro WX hWX; obtain ⟨y0, y1, y2⟩ := cells3 (HX0_0.out WX (HB0_1.out.trans ((show Below W1.heap.size W1 WX from hWX).mono HB0_1.out.size))); go_simp)
        go_simp
        refine wpAnyH_take (i := 1) (v := .agg #[.int .i64 al, .int .i64 as_, .int .i64 an]) rfl (by kernel_rfl) (by kernel_rfl) (by kernel_rfl) (fun _ _ _ h => h) (Or.inl ⟨by kernel_rfl, ?h1⟩) HB1_2.out ?_
        case h1 => (intro WX hWX; obtain ⟨y0, y1, y2⟩ := cells3 (HX0_0.out WX (HB0_1.out.trans ((show Below W1.heap.size W1 WX from hWX).mono HB0_1.out.size))); go_simp)
        go_simp
        refine wpAnyH_ready (rs := [2]) (by kernel_rfl) (by simp) ?_
        refine AllReadyH.cons rfl (fun K hK => ?_) AllReadyH.nil
        go_simp
        go_wp2_with (refine Calls.mono (covers_is al as_ an al as_ an HCs.out _) ?_; rintro e3 W3 ⟨rfl, hb⟩)
        have HBw3 : Hid (Below w.heap.size w W3) := Lib.hid (HBw2.out.trans ((hb : Below W2.heap.size W2 W3).mono HBw2.out.size))
        have HB0_3 : Hid (Below W0.heap.size W0 W3) := Lib.hid (HB0_2.out.trans ((hb : Below W2.heap.size W2 W3).mono HB0_2.out.size))
        have HB1_3 : Hid (Below W1.heap.size W1 W3) := Lib.hid (HB1_2.out.trans ((hb : Below W2.heap.size W2 W3).mono HB1_2.out.size))
        have HB2_3 : Hid (Below W2.heap.size W2 W3) := Lib.hid (hb)
        clear hb
        refine hK.out _ _ HB1_3.out (fun _ => ?_)
        clear hK K
        go_simp
        refine wpAnyH_take (i := 3) (v := .bool true) rfl (by kernel_rfl) (by kernel_rfl) (by kernel_rfl) (fun _ _ _ h => h) (Or.inl ⟨by kernel_rfl, ?h3⟩) HB1_3.out ?_
        case h3 => (intro WX hWX; go_simp)
        go_simp
        refine wpAnyH_take (i := 4) (v := .agg #[.int .i64 al, .int .i64 as_, .int .i64 an]) rfl (by kernel_rfl) (by kernel_rfl) (by kernel_rfl) (fun _ _ _ h => h) (Or.inl ⟨by kernel_rfl, ?h4⟩) HB1_3.out ?_
        case h4 => (intro WX hWX; obtain ⟨y0, y1, y2⟩ := cells3 (HX0_0.out WX (HB0_1.out.trans ((show Below W1.heap.size W1 WX from hWX).mono HB0_1.out.size))); go_simp)
        go_simp
        refine wpAnyH_take (i := 5) (v := .agg #[.int .i64 bl, .int .i64 bs, .int .i64 bn]) rfl (by kernel_rfl) (by kernel_rfl) (by kernel_rfl) (fun _ _ _ h => h) (Or.inl ⟨by kernel_rfl, ?h5⟩) HB1_3.out ?_
        case h5 => (intro WX hWX; obtain ⟨y0, y1, y2⟩ := cells3 (HX1_0.out WX (HB0_1.out.trans ((show Below W1.heap.size W1 WX from hWX).mono HB0_1.out.size))); go_simp)
        go_simp
        refine wpAnyH_ready (rs := [6]) (by kernel_rfl) (by simp) ?_
        refine AllReadyH.cons rfl (fun K hK => ?_) AllReadyH.nil
        go_simp
        go_wp2_with (refine Calls.mono (covers_is al as_ an bl bs bn HCvab.out _) ?_; rintro e4 W4 ⟨rfl, hb⟩)
        have HBw4 : Hid (Below w.heap.size w W4) := Lib.hid (HBw3.out.trans ((hb : Below W3.heap.size W3 W4).mono HBw3.out.size))
        have HB0_4 : Hid (Below W0.heap.size W0 W4) := Lib.hid (HB0_3.out.trans ((hb : Below W3.heap.size W3 W4).mono HB0_3.out.size))
        have HB1_4 : Hid (Below W1.heap.size W1 W4) := Lib.hid (HB1_3.out.trans ((hb : Below W3.heap.size W3 W4).mono HB1_3.out.size))
        have HB2_4 : Hid (Below W2.heap.size W2 W4) := Lib.hid (HB2_3.out.trans ((hb : Below W3.heap.size W3 W4).mono HB2_3.out.size))
        have HB3_4 : Hid (Below W3.heap.size W3 W4) := Lib.hid (hb)
        clear hb
        refine hK.out _ _ HB1_4.out (fun _ => ?_)
        clear hK K
        go_simp
        refine wpAnyH_take (i := 7) (v := .bool false) rfl (by kernel_rfl) (by kernel_rfl) (by kernel_rfl) (fun _ _ _ h => h) (Or.inl ⟨by kernel_rfl, ?h7⟩) HB1_4.out ?_
        case h7 => (intro WX hWX; go_simp)
        go_simp
        refine wpAnyH_take (i := 8) (v := .bool false) rfl (by kernel_rfl) (by kernel_rfl) (by kernel_rfl) (fun _ _ _ h => h) (Or.inl ⟨by kernel_rfl, ?h8⟩) HB1_4.out ?_
        case h8 => (intro WX hWX; go_simp)
        go_simp
        refine wpAnyH_take (i := 9) (v := .agg #[.int .i64 bl, .int .i64 bs, .int .i64 bn]) rfl (by kernel_rfl) (by kernel_rfl) (by kernel_rfl) (fun _ _ _ h => h) (Or.inl ⟨by kernel_rfl, ?h9⟩) HB1_4.out ?_
        case h9 => (intro WX hWX; obtain ⟨y0, y1, y2⟩ := cells3 (HX1_0.out WX (HB0_1.out.trans ((show Below W1.heap.size W1 WX from hWX).mono HB0_1.out.size))); go_simp)
        go_simp
        refine wpAnyH_take (i := 10) (v := .agg #[.int .i64 cl, .int .i64 cs_, .int .i64 cn]) rfl (by kernel_rfl) (by kernel_rfl) (by kernel_rfl) (fun _ _ _ h => h) (Or.inl ⟨by kernel_rfl, ?h10⟩) HB1_4.out ?_
        case h10 => (intro WX hWX; obtain ⟨y0, y1, y2⟩ := cells3 (HX2_0.out WX (HB0_1.out.trans ((show Below W1.heap.size W1 WX from hWX).mono HB0_1.out.size))); go_simp)
        go_simp
        refine wpAnyH_ready (rs := [11]) (by kernel_rfl) (by simp) ?_
        refine AllReadyH.cons rfl (fun K hK => ?_) AllReadyH.nil
        go_simp
        go_wp2_with (refine Calls.mono (covers_is bl bs bn cl cs_ cn HCvbc.out _) ?_; rintro e5 W5 ⟨rfl, hb⟩)
        have HBw5 : Hid (Below w.heap.size w W5) := Lib.hid (HBw4.out.trans ((hb : Below W4.heap.size W4 W5).mono HBw4.out.size))
        have HB0_5 : Hid (Below W0.heap.size W0 W5) := Lib.hid (HB0_4.out.trans ((hb : Below W4.heap.size W4 W5).mono HB0_4.out.size))
        have HB1_5 : Hid (Below W1.heap.size W1 W5) := Lib.hid (HB1_4.out.trans ((hb : Below W4.heap.size W4 W5).mono HB1_4.out.size))
        have HB2_5 : Hid (Below W2.heap.size W2 W5) := Lib.hid (HB2_4.out.trans ((hb : Below W4.heap.size W4 W5).mono HB2_4.out.size))
        have HB3_5 : Hid (Below W3.heap.size W3 W5) := Lib.hid (HB3_4.out.trans ((hb : Below W4.heap.size W4 W5).mono HB3_4.out.size))
        have HB4_5 : Hid (Below W4.heap.size W4 W5) := Lib.hid (hb)
        clear hb
        refine hK.out _ _ HB1_5.out (fun _ => ?_)
        clear hK K
        go_simp
        refine wpAnyH_take (i := 12) (v := .bool false) rfl (by kernel_rfl) (by kernel_rfl) (by kernel_rfl) (fun _ _ _ h => h) (Or.inl ⟨by kernel_rfl, ?h12⟩) HB1_5.out ?_
        case h12 => (intro WX hWX; go_simp)
        go_simp
        refine wpAnyH_take (i := 13) (v := .bool false) rfl (by kernel_rfl) (by kernel_rfl) (by kernel_rfl) (fun _ _ _ h => h) (Or.inl ⟨by kernel_rfl, ?h13⟩) HB1_5.out ?_
        case h13 => (intro WX hWX; go_simp)
        go_simp
        refine wpAnyH_take (i := 14) (v := .bool false) rfl (by kernel_rfl) (by kernel_rfl) (by kernel_rfl) (fun _ _ _ h => h) (Or.inl ⟨by kernel_rfl, ?h14⟩) HB1_5.out ?_
        case h14 => (intro WX hWX; go_simp)
        go_simp
        refine wpAnyH_take (i := 15) (v := .agg #[.int .i64 al, .int .i64 as_, .int .i64 an]) rfl (by kernel_rfl) (by kernel_rfl) (by kernel_rfl) (fun _ _ _ h => h) (Or.inl ⟨by kernel_rfl, ?h15⟩) HB1_5.out ?_
        case h15 => (intro WX hWX; obtain ⟨y0, y1, y2⟩ := cells3 (HX0_0.out WX (HB0_1.out.trans ((show Below W1.heap.size W1 WX from hWX).mono HB0_1.out.size))); go_simp)
        go_simp
        refine wpAnyH_take (i := 16) (v := .agg #[.int .i64 cl, .int .i64 cs_, .int .i64 cn]) rfl (by kernel_rfl) (by kernel_rfl) (by kernel_rfl) (fun _ _ _ h => h) (Or.inl ⟨by kernel_rfl, ?h16⟩) HB1_5.out ?_
        case h16 => (intro WX hWX; obtain ⟨y0, y1, y2⟩ := cells3 (HX2_0.out WX (HB0_1.out.trans ((show Below W1.heap.size W1 WX from hWX).mono HB0_1.out.size))); go_simp)
        go_simp
        refine wpAnyH_ready (rs := [17]) (by kernel_rfl) (by simp) ?_
        refine AllReadyH.cons rfl (fun K hK => ?_) AllReadyH.nil
        go_simp
        go_wp2_with (refine Calls.mono (covers_is al as_ an cl cs_ cn HCvac.out _) ?_; rintro e6 W6 ⟨rfl, hb⟩)
        have HBw6 : Hid (Below w.heap.size w W6) := Lib.hid (HBw5.out.trans ((hb : Below W5.heap.size W5 W6).mono HBw5.out.size))
        have HB0_6 : Hid (Below W0.heap.size W0 W6) := Lib.hid (HB0_5.out.trans ((hb : Below W5.heap.size W5 W6).mono HB0_5.out.size))
        have HB1_6 : Hid (Below W1.heap.size W1 W6) := Lib.hid (HB1_5.out.trans ((hb : Below W5.heap.size W5 W6).mono HB1_5.out.size))
        have HB2_6 : Hid (Below W2.heap.size W2 W6) := Lib.hid (HB2_5.out.trans ((hb : Below W5.heap.size W5 W6).mono HB2_5.out.size))
        have HB3_6 : Hid (Below W3.heap.size W3 W6) := Lib.hid (HB3_5.out.trans ((hb : Below W5.heap.size W5 W6).mono HB3_5.out.size))
        have HB4_6 : Hid (Below W4.heap.size W4 W6) := Lib.hid (HB4_5.out.trans ((hb : Below W5.heap.size W5 W6).mono HB4_5.out.size))
        have HB5_6 : Hid (Below W5.heap.size W5 W6) := Lib.hid (hb)
        clear hb
        refine hK.out _ _ HB1_6.out (fun _ => ?_)
        clear hK K
        go_simp
        refine wpAnyH_take (i := 18) (v := .bool true) rfl (by kernel_rfl) (by kernel_rfl) (by kernel_rfl) (fun _ _ _ h => h) (Or.inl ⟨by kernel_rfl, ?h18⟩) HB1_6.out ?_
        case h18 => (intro WX hWX; go_simp)
        go_simp
        refine wpAnyH_take (i := 19) (v := .bool true) rfl (by kernel_rfl) (by kernel_rfl) (by kernel_rfl) (fun _ _ _ h => h) (Or.inl ⟨by kernel_rfl, ?h19⟩) HB1_6.out ?_
        case h19 => (intro WX hWX; go_simp)
        go_simp
        refine wpAnyH_take (i := 20) (v := .bool true) rfl (by kernel_rfl) (by kernel_rfl) (by kernel_rfl) (fun _ _ _ h => h) (Or.inl ⟨by kernel_rfl, ?h20⟩) HB1_6.out ?_
        case h20 => (intro WX hWX; go_simp)
        go_simp
        refine wpAnyH_take (i := 21) (v := .agg #[.int .i64 al, .int .i64 as_, .int .i64 an]) rfl (by kernel_rfl) (by kernel_rfl) (by kernel_rfl) (fun _ _ _ h => h) (Or.inl ⟨by kernel_rfl, ?h21⟩) HB1_6.out ?_
        case h21 => (intro WX hWX; obtain ⟨y0, y1, y2⟩ := cells3 (HX0_0.out WX (HB0_1.out.trans ((show Below W1.heap.size W1 WX from hWX).mono HB0_1.out.size))); go_simp)
        go_simp
        refine wpAnyH_take (i := 22) (v := .agg #[.int .i64 bl, .int .i64 bs, .int .i64 bn]) rfl (by kernel_rfl) (by kernel_rfl) (by kernel_rfl) (fun _ _ _ h => h) (Or.inl ⟨by kernel_rfl, ?h22⟩) HB1_6.out ?_
        case h22 => (intro WX hWX; obtain ⟨y0, y1, y2⟩ := cells3 (HX1_0.out WX (HB0_1.out.trans ((show Below W1.heap.size W1 WX from hWX).mono HB0_1.out.size))); go_simp)
        go_simp
        refine wpAnyH_take (i := 29) (v := .agg #[.int .i64 al, .int .i64 as_, .int .i64 an]) rfl (by kernel_rfl) (by kernel_rfl) (by kernel_rfl) (fun _ _ _ h => h) (Or.inl ⟨by kernel_rfl, ?h29⟩) HB1_6.out ?_
        case h29 => (intro WX hWX; obtain ⟨y0, y1, y2⟩ := cells3 (HX0_0.out WX (HB0_1.out.trans ((show Below W1.heap.size W1 WX from hWX).mono HB0_1.out.size))); go_simp)
        go_simp
        refine wpAnyH_take (i := 30) (v := .agg #[.int .i64 bl, .int .i64 bs, .int .i64 bn]) rfl (by kernel_rfl) (by kernel_rfl) (by kernel_rfl) (fun _ _ _ h => h) (Or.inl ⟨by kernel_rfl, ?h30⟩) HB1_6.out ?_
        case h30 => (intro WX hWX; obtain ⟨y0, y1, y2⟩ := cells3 (HX1_0.out WX (HB0_1.out.trans ((show Below W1.heap.size W1 WX from hWX).mono HB0_1.out.size))); go_simp)
        go_simp
        refine wpAnyH_take (i := 31) (v := .bool true) rfl (by kernel_rfl) (by kernel_rfl) (by kernel_rfl) (fun _ _ _ h => h) (Or.inl ⟨by kernel_rfl, ?h31⟩) HB1_6.out ?_
        case h31 => (intro WX hWX; go_simp)
        go_simp
        refine wpAnyH_ready (rs := [23]) (by kernel_rfl) (by simp) ?_
        refine AllReadyH.cons rfl (fun K hK => ?_) AllReadyH.nil
        go_simp
        go_wp2_with (refine Calls.mono (covers_is al as_ an bl bs bn HCvab.out _) ?_; rintro e7 W7 ⟨rfl, hb⟩)
        have HBw7 : Hid (Below w.heap.size w W7) := Lib.hid (HBw6.out.trans ((hb : Below W6.heap.size W6 W7).mono HBw6.out.size))
        have HB0_7 : Hid (Below W0.heap.size W0 W7) := Lib.hid (HB0_6.out.trans ((hb : Below W6.heap.size W6 W7).mono HB0_6.out.size))
        have HB1_7 : Hid (Below W1.heap.size W1 W7) := Lib.hid (HB1_6.out.trans ((hb : Below W6.heap.size W6 W7).mono HB1_6.out.size))
        have HB2_7 : Hid (Below W2.heap.size W2 W7) := Lib.hid (HB2_6.out.trans ((hb : Below W6.heap.size W6 W7).mono HB2_6.out.size))
        have HB3_7 : Hid (Below W3.heap.size W3 W7) := Lib.hid (HB3_6.out.trans ((hb : Below W6.heap.size W6 W7).mono HB3_6.out.size))
        have HB4_7 : Hid (Below W4.heap.size W4 W7) := Lib.hid (HB4_6.out.trans ((hb : Below W6.heap.size W6 W7).mono HB4_6.out.size))
        have HB5_7 : Hid (Below W5.heap.size W5 W7) := Lib.hid (HB5_6.out.trans ((hb : Below W6.heap.size W6 W7).mono HB5_6.out.size))
        have HB6_7 : Hid (Below W6.heap.size W6 W7) := Lib.hid (hb)
        clear hb
        refine hK.out _ _ HB1_7.out (fun _ => ?_)
        clear hK K
        go_simp
        refine wpAnyH_take (i := 24) (v := .bool true) rfl (by kernel_rfl) (by kernel_rfl) (by kernel_rfl) (fun _ _ _ h => h) (Or.inl ⟨by kernel_rfl, ?h24⟩) HB1_7.out ?_
        case h24 => (intro WX hWX; go_simp)
        go_simp
        refine wpAnyH_take (i := 25) (v := .agg #[.int .i64 bl, .int .i64 bs, .int .i64 bn]) rfl (by kernel_rfl) (by kernel_rfl) (by kernel_rfl) (fun _ _ _ h => h) (Or.inl ⟨by kernel_rfl, ?h25⟩) HB1_7.out ?_
        case h25 => (intro WX hWX; obtain ⟨y0, y1, y2⟩ := cells3 (HX1_0.out WX (HB0_1.out.trans ((show Below W1.heap.size W1 WX from hWX).mono HB0_1.out.size))); go_simp)
        go_simp
        refine wpAnyH_take (i := 26) (v := .agg #[.int .i64 al, .int .i64 as_, .int .i64 an]) rfl (by kernel_rfl) (by kernel_rfl) (by kernel_rfl) (fun _ _ _ h => h) (Or.inl ⟨by kernel_rfl, ?h26⟩) HB1_7.out ?_
        case h26 => (intro WX hWX; obtain ⟨y0, y1, y2⟩ := cells3 (HX0_0.out WX (HB0_1.out.trans ((show Below W1.heap.size W1 WX from hWX).mono HB0_1.out.size))); go_simp)
        go_simp
        refine wpAnyH_ready (rs := [27]) (by kernel_rfl) (by simp) ?_
        refine AllReadyH.cons rfl (fun K hK => ?_) AllReadyH.nil
        go_simp
        go_wp2_with (refine Calls.mono (covers_is bl bs bn al as_ an HCvba.out _) ?_; rintro e8 W8 ⟨rfl, hb⟩)
        have HBw8 : Hid (Below w.heap.size w W8) := Lib.hid (HBw7.out.trans ((hb : Below W7.heap.size W7 W8).mono HBw7.out.size))
        have HB0_8 : Hid (Below W0.heap.size W0 W8) := Lib.hid (HB0_7.out.trans ((hb : Below W7.heap.size W7 W8).mono HB0_7.out.size))
        have HB1_8 : Hid (Below W1.heap.size W1 W8) := Lib.hid (HB1_7.out.trans ((hb : Below W7.heap.size W7 W8).mono HB1_7.out.size))
        have HB2_8 : Hid (Below W2.heap.size W2 W8) := Lib.hid (HB2_7.out.trans ((hb : Below W7.heap.size W7 W8).mono HB2_7.out.size))
        have HB3_8 : Hid (Below W3.heap.size W3 W8) := Lib.hid (HB3_7.out.trans ((hb : Below W7.heap.size W7 W8).mono HB3_7.out.size))
        have HB4_8 : Hid (Below W4.heap.size W4 W8) := Lib.hid (HB4_7.out.trans ((hb : Below W7.heap.size W7 W8).mono HB4_7.out.size))
        have HB5_8 : Hid (Below W5.heap.size W5 W8) := Lib.hid (HB5_7.out.trans ((hb : Below W7.heap.size W7 W8).mono HB5_7.out.size))
        have HB6_8 : Hid (Below W6.heap.size W6 W8) := Lib.hid (HB6_7.out.trans ((hb : Below W7.heap.size W7 W8).mono HB6_7.out.size))
        have HB7_8 : Hid (Below W7.heap.size W7 W8) := Lib.hid (hb)
        clear hb
        refine hK.out _ _ HB1_8.out (fun _ => ?_)
        clear hK K
        go_simp
        refine wpAnyH_take (i := 28) (v := .bool true) rfl (by kernel_rfl) (by kernel_rfl) (by kernel_rfl) (fun _ _ _ h => h) (Or.inl ⟨by kernel_rfl, ?h28⟩) HB1_8.out ?_
        case h28 => (intro WX hWX; go_simp)
        go_simp
        refine wpAnyH_take (i := 32) (v := .bool true) rfl (by kernel_rfl) (by kernel_rfl) (by kernel_rfl) (fun _ _ _ h => h) (Or.inl ⟨by kernel_rfl, ?h32⟩) HB1_8.out ?_
        case h32 => (intro WX hWX; go_simp)
        go_simp
        refine wpAnyH_take (i := 33) (v := .bool true) rfl (by kernel_rfl) (by kernel_rfl) (by kernel_rfl) (fun _ _ _ h => h) (Or.inl ⟨by kernel_rfl, ?h33⟩) HB1_8.out ?_
        case h33 => (intro WX hWX; go_simp)
        go_simp
        refine wpAnyH_take (i := 34) (v := .bool true) rfl (by kernel_rfl) (by kernel_rfl) (by kernel_rfl) (fun _ _ _ h => h) (Or.inl ⟨by kernel_rfl, ?h34⟩) HB1_8.out ?_
        case h34 => (intro WX hWX; go_simp)
        go_simp
        refine wpAnyH_done (by kernel_rfl) ?_ _
        go_wp2_with fail
        go_ret
        exact ⟨rec.retB (by first | rfl | (simp; done) | (simp; omega)), HBw8.out⟩
  -- WALK ENDS

set_option maxRecDepth 100000 in
theorem lifted (os : Os) (started : os.Started) (H : Type) (enc : TypeId × Value → H) :
    ReturnsInHanded {} Try.checked os 6 .any (Rows.cellCoversSpec.pre6 enc Try.prog Try.f6 Rows.cellCoversRow.domain false) (Rows.cellCoversSpec.post enc Try.prog Try.f6 false true false false) := by
  refine returnsInHanded_of_change (C := Try.checked) own started (by kernel_rfl) Try.func6
    (ChangeSpec.witness6 (enc := enc) (C := Try.checked) false ⟨#[], #[.agg #[.int .i64 0, .int .i64 0, .int .i64 0], .agg #[.int .i64 0, .int .i64 0, .int .i64 0], .agg #[.int .i64 0, .int .i64 0, .int .i64 0]], []⟩ 8 (by kernel_rfl) (by kernel_rfl) (by kernel_rfl) (by kernel_rfl)) ?_
  intro W base args ds gs before hval0 hW hcnd _
  have hval : ∀ (j : Nat) t v, Try.f6.params[j]? = some t → args[j]? = some v → Value.okWide Try.prog W .any base t v := hval0
  have hW' := hW
  obtain ⟨p, q, hA0, hV, rfl, hfz, hnd⟩ := hW
  have hA : DataW.TrodAll enc Try.prog W 0 (fun _ => true) true Try.f6.params.toList args.toList ds p := hA0
  rw [Try.params6] at hA hval
  obtain ⟨v0, vs0, d0, ds0, p0_, q0, hargs, rfl, rfl, h0, r0⟩ := trodAll_cons hA
  obtain ⟨v1, vs1, d1, ds1, p1_, q1, rfl, rfl, rfl, h1, r1⟩ := trodAll_cons r0
  obtain ⟨v2, vs2, d2, ds2, p2_, q2, rfl, rfl, rfl, h2, r2⟩ := trodAll_cons r1
  obtain ⟨rfl, rfl, rfl⟩ := trodAll_nil r2
  obtain rfl : args = #[v0, v1, v2] := by cases args; simp_all
  obtain ⟨rfl, rfl⟩ := trodVars_none hV
  obtain ⟨cs0, rfl, hsz0⟩ := okWide_struct Try.underlying27 (hval 0 27 v0 rfl rfl)
  have k0 := h0
  have lt0 : ∀ x ∈ p0_, x.block < W.heap.size := by obtain ⟨m, hm⟩ := k0; exact DataW.trod_lt m _ _ _ hm
  obtain ⟨x0, w0⟩ := of_arg of_expo k0
  obtain ⟨cs1, rfl, hsz1⟩ := okWide_struct Try.underlying27 (hval 1 27 v1 rfl rfl)
  have k1 := h1
  have lt1 : ∀ x ∈ p1_, x.block < W.heap.size := by obtain ⟨m, hm⟩ := k1; exact DataW.trod_lt m _ _ _ hm
  obtain ⟨x1, w1⟩ := of_arg of_expo k1
  obtain ⟨cs2, rfl, hsz2⟩ := okWide_struct Try.underlying27 (hval 2 27 v2 rfl rfl)
  have k2 := h2
  have lt2 : ∀ x ∈ p2_, x.block < W.heap.size := by obtain ⟨m, hm⟩ := k2; exact DataW.trod_lt m _ _ _ hm
  obtain ⟨x2, w2⟩ := of_arg of_expo k2
  clear hA0 hval0
  refine (walk cs0 x0 cs1 x1 cs2 x2 W w0 w1 w2).mono fun e W' ⟨he, bel⟩ => ?_
  subst he
  exact ⟨_, rfl, _, _, _, [], _, [], hW', trodAll_mk1 (shut_bool Try.underlying4 _), (trodAll_cons_mk (Below.trod laidOut (by kernel_rfl) (of_decide_eq_true (by kernel_rfl)) k0 bel lt0) (trodAll_cons_mk (Below.trod laidOut (by kernel_rfl) (of_decide_eq_true (by kernel_rfl)) k1 bel lt1) (trodAll_cons_mk (Below.trod laidOut (by kernel_rfl) (of_decide_eq_true (by kernel_rfl)) k2 bel lt2) trodAll_mk0))), rfl, bel.frame _, fun h => by cases h⟩

theorem over : Rows.cellCoversRow.holds Try.pinned (OpenSpec.ofChange Rows.cellCoversSpec) :=
  OpenClaim.holds_of_wide 6 Try.f6 rfl rfl rfl rfl rfl rfl rfl ⟨rfl, rfl, rfl, rfl, rfl⟩ rfl rfl rfl rfl rfl (by kernel_rfl) Try.func6 (by kernel_rfl)
    (of_decide_eq_true (by kernel_rfl)) (by unfold Func.isWrapper; first | (rw [if_pos (by decide +kernel)]; kernel_rfl) | (rw [if_neg (by decide +kernel)]; exact ⟨rfl, rfl⟩))
    (fun os started H enc _ => lifted os started H enc)

theorem proved : Rows.CellCoversSaid := over
#print axioms proved
end Go.Proofs.Ytkpapjdlpjjmbaa.cellCovers
