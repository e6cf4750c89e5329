/-
  PROVED: the law LimitRight answers true at every input, and leaves what it was given as it was.
  CONDITIONS: none.
-/
import Derived.Test.YtiebaiehoebhfaaRows
import Derived.WalkKit
import Derived.ProofKit
import Derived.OpenShut
import Derived.ShutString
import Derived.ChangeOld
import Derived.Below
import Derived.Test.YtiebaiehoebhfaaRet
import Derived.Test.YtiebaiehoebhfaaLimRefW
import Derived.Test.YtiebaiehoebhfaaLimRef
import Derived.Deep.RegionHeld
import Derived.Deep.DrawnRows
import Derived.Deep.DeepCutAuto
import Derived.Test.YtiebaiehoebhfaaAwake09
import Derived.Test.YtiebaiehoebhfaaCls
import Derived.Test.YtiebaiehoebhfaaCellEq
import Derived.Test.YtiebaiehoebhfaaRead
namespace Go.Proofs.Ytiebaiehoebhfaa.limitRight
open Go.ChangeShapes Go.WideShapes Go.ChangeAt Go.RowKit
open Go.ChangeMaps (open_string shut_string)
open Go.Proofs.Ytiebaiehoebhfaa Go.Proofs.Ytiebaiehoebhfaa.cell Go.Proofs.Ytiebaiehoebhfaa.limit
open Go.Proofs.Ytiebaiehoebhfaa.order (eq_cases)
attribute [local go_sem] undef
attribute [local go_sem ↓] Go.wp_at_zero Go.wp_at_succ
set_option linter.unusedVariables false

theorem own : ownKnob Try.prog.godebug = none := by kernel_rfl
theorem laidOut : laidOutB Try.prog = true := by kernel_rfl

set_option maxHeartbeats 8000000 in
set_option maxRecDepth 100000 in
theorem walk (cs0 : Array Value) (x0 : ExpoD) (cs1 : Array Value) (x1 : ExpoD) (cs2 : Array Value) (x2 : ExpoD) (a3 : Int) (a4 : Int) (a5 : Int) (p6 : Option Addr) (n6 c6 : Nat) (x6 : List (CellD)) (w : World) (w0 : rdExpo w (Lt w.heap.size) cs0.toList x0) (w1 : rdExpo w (Lt w.heap.size) cs1.toList x1) (w2 : rdExpo w (Lt w.heap.size) cs2.toList x2) (w3 : (Lit.int .i64 a3).wf = true) (w4 : (Lit.int .i64 a4).wf = true) (w5 : (Lit.int .i64 a5).wf = true) (w6 : (rdSlice rdCell 4) w (Lt w.heap.size) [.slice p6 n6 c6] x6) :
    Calls Try.prog 3 #[.agg cs0, .agg cs1, .agg cs2, .int .i64 a3, .int .i64 a4, .int .i64 a5, .slice p6 n6 c6] w fun e w' => e = .returned (.bool true) ∧ Below w.heap.size w w' := by
  -- WALK BEGINS
  obtain ⟨hc0, hf0⟩ := w0
  obtain rfl : cs0 = cell.xc x0 := by apply Array.toList_inj.1; exact hc0
  clear hc0
  obtain ⟨al, as_, an⟩ := x0
  obtain ⟨hc1, hf1⟩ := w1
  obtain rfl : cs1 = cell.xc x1 := by apply Array.toList_inj.1; exact hc1
  clear hc1
  obtain ⟨bl, bs, bn⟩ := x1
  obtain ⟨hc2, hf2⟩ := w2
  obtain rfl : cs2 = cell.xc x2 := by apply Array.toList_inj.1; exact hc2
  clear hc2
  obtain ⟨cl, cs_, cn⟩ := x2
  show Calls Try.prog 3 #[.agg #[.int .i64 al, .int .i64 as_, .int .i64 an], .agg #[.int .i64 bl, .int .i64 bs, .int .i64 bn], .agg #[.int .i64 cl, .int .i64 cs_, .int .i64 cn], .int .i64 a3, .int .i64 a4, .int .i64 a5, .slice p6 n6 c6] w _
  obtain ⟨W0, HW0⟩ : ∃ W, Hid ((((w.alloc (.cells #[.int .i64 al, .int .i64 as_, .int .i64 an] 23)).alloc (.cells #[.int .i64 bl, .int .i64 bs, .int .i64 bn] 23)).alloc (.cells #[.int .i64 cl, .int .i64 cs_, .int .i64 cn] 23)) = W) := ⟨_, Lib.hid rfl⟩
  have HBw0 : Hid (Below w.heap.size w W0) := Lib.hid (by rw [← HW0.out]; exact (((Below.refl _ _).alloc (by simp) _).alloc (by simp; try omega) _).alloc (by simp; try omega) _)
  have HX0_0 : Hid (∀ W, Below W0.heap.size W0 W → W.heap[w.heap.size]? = some (.cells #[.int .i64 al, .int .i64 as_, .int .i64 an] 23 (0, 0))) := Lib.hid (fun W hb => (hb.block _ (by rw [← HW0.out]; simp; try omega)).trans (by rw [← HW0.out]; refine (Below.heap_alloc _ _ _ (by simp; try omega)).trans ?_; refine (Below.heap_alloc _ _ _ (by simp; try omega)).trans ?_; have := heap_alloc_new w (.cells #[.int .i64 al, .int .i64 as_, .int .i64 an] 23); exact this))
  have HX1_0 : Hid (∀ W, Below W0.heap.size W0 W → W.heap[w.heap.size + 1]? = some (.cells #[.int .i64 bl, .int .i64 bs, .int .i64 bn] 23 (0, 0))) := Lib.hid (fun W hb => (hb.block _ (by rw [← HW0.out]; simp; try omega)).trans (by rw [← HW0.out]; refine (Below.heap_alloc _ _ _ (by simp; try omega)).trans ?_; have := heap_alloc_new (w.alloc (.cells #[.int .i64 al, .int .i64 as_, .int .i64 an] 23)) (.cells #[.int .i64 bl, .int .i64 bs, .int .i64 bn] 23); simp only [World.size_alloc] at this; exact this))
  have HX2_0 : Hid (∀ W, Below W0.heap.size W0 W → W.heap[w.heap.size + 1 + 1]? = some (.cells #[.int .i64 cl, .int .i64 cs_, .int .i64 cn] 23 (0, 0))) := Lib.hid (fun W hb => (hb.block _ (by rw [← HW0.out]; simp; try omega)).trans (by rw [← HW0.out]; have := heap_alloc_new ((w.alloc (.cells #[.int .i64 al, .int .i64 as_, .int .i64 an] 23)).alloc (.cells #[.int .i64 bl, .int .i64 bs, .int .i64 bn] 23)) (.cells #[.int .i64 cl, .int .i64 cs_, .int .i64 cn] 23); simp only [World.size_alloc] at this; exact this))
  obtain ⟨A6, N6, C6, hsl, hcl, hln, hle, hmx⟩ := w6
  simp only [List.cons.injEq, Value.slice.injEq, and_true] at hsl
  obtain ⟨rfl, rfl, rfl⟩ := hsl
  have HCL : Hid (Cls w w.heap.size p6 x6) := Lib.hid hcl
  have HLN := Lib.hid hln
  clear hcl hln hf0 hf1 hf2 w3 w4 w5
  unfold maxLen at hmx
  go_enter Try.func3, Try.ntmps3
  go_upto_region 1 with fail
  rw [HW0.out]
  go_wp2_with fail
  refine Calls.mono (awake_any _) ?_
  rintro e1 W1 ⟨rfl, hb⟩
  have HBw1 : Hid (Below w.heap.size w W1) := Lib.hid (HBw0.out.trans ((hb : Below W0.heap.size W0 W1).mono HBw0.out.size))
  have HB0_1 : Hid (Below W0.heap.size W0 W1) := Lib.hid (hb)
  clear hb
  by_cases hlz1 : 100 < (n6 : Int)
  · have HLz1 := Lib.hid hlz1
    go_wp2_with fail
    go_ret
    exact ⟨rec.retB (by first | rfl | (simp; done) | (simp; omega)), HBw1.out⟩
  · have HLz1 := Lib.hid hlz1
    have hnz1 : (n6 : Int) ≤ 100 := by omega
    clear hlz1
    obtain ⟨ws, we, HWH⟩ : ∃ x y, Hid (whole x6 = (x, y)) := ⟨_, _, Lib.hid rfl⟩
    go_wp2_with fail
    refine Calls.mono (whole_is p6 n6 c6 _ x6 _ (HCL.out.below HBw1.out) HBw1.out.size HLN.out (by omega) HWH.out) ?_
    rintro e2 W2 ⟨rfl, hb⟩
    have HBw2 : Hid (Below w.heap.size w W2) := Lib.hid (HBw1.out.trans ((hb : Below W1.heap.size W1 W2).mono HBw1.out.size))
    have HB0_2 : Hid (Below W0.heap.size W0 W2) := Lib.hid (HB0_1.out.trans ((hb : Below W1.heap.size W1 W2).mono HB0_1.out.size))
    have HB1_2 : Hid (Below W1.heap.size W1 W2) := Lib.hid (hb)
    clear hb
    rcases eq_cases we 0 with ⟨HEz2, hez2, hfz2⟩ | ⟨HEz2, hez2, hfz2⟩
    · obtain rfl : we = 0 := HEz2.out
      go_wp2_with fail
      refine Calls.mono (rwhole_is p6 n6 c6 _ x6 _ (HCL.out.below HBw2.out) HLN.out (by omega) HWH.out rfl) ?_
      rintro e9 W9 ⟨rfl, rfl⟩
      obtain ⟨cb3, HCb3⟩ : ∃ x, Hid (limit.right ⟨cl, cs_, cn⟩ = x) := ⟨_, Lib.hid rfl⟩
      obtain ⟨cb4, HCb4⟩ : ∃ x, Hid (against ⟨al, as_, an⟩ ⟨bl, bs, bn⟩ ⟨cl, cs_, cn⟩ = x) := ⟨_, Lib.hid rfl⟩
      obtain ⟨cb5, HCb5⟩ : ∃ x, Hid (cap a3 a4 a5 = x) := ⟨_, Lib.hid rfl⟩
      obtain ⟨cb6, HCb6⟩ : ∃ x, Hid (lowers ⟨al, as_, an⟩ ⟨bl, bs, bn⟩ = x) := ⟨_, Lib.hid rfl⟩
      go_upto_region 7 with fail
      refine wp_region_held_drew (S := fun W => Below W2.heap.size W2 W) (by kernel_rfl) (Below.refl _ _).drew (fun _ => ?_)
      obtain ⟨W3, hW3⟩ : ∃ x, x = W2.drew := ⟨_, rfl⟩
      rw [← hW3]
      have HBw3 : Hid (Below w.heap.size w W3) := Lib.hid (HBw2.out.trans ((by rw [hW3]; exact (Below.refl _ _).drew : Below W2.heap.size W2 W3).mono HBw2.out.size))
      have HB0_3 : Hid (Below W0.heap.size W0 W3) := Lib.hid (HB0_2.out.trans ((by rw [hW3]; exact (Below.refl _ _).drew : Below W2.heap.size W2 W3).mono HB0_2.out.size))
      have HB1_3 : Hid (Below W1.heap.size W1 W3) := Lib.hid (HB1_2.out.trans ((by rw [hW3]; exact (Below.refl _ _).drew : Below W2.heap.size W2 W3).mono HB1_2.out.size))
      have HB2_3 : Hid (Below W2.heap.size W2 W3) := Lib.hid (by rw [hW3]; exact (Below.refl _ _).drew)
      clear hW3
      refine wpAnyH_take (i := 0) (v := .agg #[.int .i64 cl, .int .i64 cs_, .int .i64 cn]) rfl (by kernel_rfl) (by kernel_rfl) (by kernel_rfl) (fun _ _ _ h => h) (Or.inl ⟨by kernel_rfl, ?h0⟩) HB2_3.out ?_
      case h0 => (intro WX hWX; obtain ⟨y0, y1, y2⟩ := cells3 (HX2_0.out WX (HB0_2.out.trans ((show Below W2.heap.size W2 WX from hWX).mono HB0_2.out.size))); go_simp)
      go_simp
      refine wpAnyH_take (i := 2) (v := .agg #[.int .i64 cl, .int .i64 cs_, .int .i64 cn]) rfl (by kernel_rfl) (by kernel_rfl) (by kernel_rfl) (fun _ _ _ h => h) (Or.inl ⟨by kernel_rfl, ?h2⟩) HB2_3.out ?_
      case h2 => (intro WX hWX; obtain ⟨y0, y1, y2⟩ := cells3 (HX2_0.out WX (HB0_2.out.trans ((show Below W2.heap.size W2 WX from hWX).mono HB0_2.out.size))); go_simp)
      go_simp
      refine wpAnyH_ready (rs := [1]) (by kernel_rfl) (by simp) ?_
      refine AllReadyH.cons rfl (fun K hK => ?_) AllReadyH.nil
      go_simp
      go_wp2_with (refine Calls.mono (right_is cl cs_ cn HCb3.out _) ?_; rintro e4 W4 ⟨rfl, hb⟩)
      have HBw4 : Hid (Below w.heap.size w W4) := Lib.hid (HBw3.out.trans ((hb : Below W3.heap.size W3 W4).mono HBw3.out.size))
      have HB0_4 : Hid (Below W0.heap.size W0 W4) := Lib.hid (HB0_3.out.trans ((hb : Below W3.heap.size W3 W4).mono HB0_3.out.size))
      have HB1_4 : Hid (Below W1.heap.size W1 W4) := Lib.hid (HB1_3.out.trans ((hb : Below W3.heap.size W3 W4).mono HB1_3.out.size))
      have HB2_4 : Hid (Below W2.heap.size W2 W4) := Lib.hid (HB2_3.out.trans ((hb : Below W3.heap.size W3 W4).mono HB2_3.out.size))
      have HB3_4 : Hid (Below W3.heap.size W3 W4) := Lib.hid (hb)
      clear hb
      refine hK.out _ _ HB2_4.out (fun _ => ?_)
      clear hK K
      go_simp
      refine wpAnyH_ready (rs := [3]) (by kernel_rfl) (by simp) ?_
      refine AllReadyH.cons rfl (fun K hK => ?_) AllReadyH.nil
      go_simp
      go_wp2_with (refine Calls.mono (rright_is cl cs_ cn HCb3.out _) ?_; rintro e5 W5 ⟨rfl, hb⟩)
      have HBw5 : Hid (Below w.heap.size w W5) := Lib.hid (HBw4.out.trans ((hb : Below W4.heap.size W4 W5).mono HBw4.out.size))
      have HB0_5 : Hid (Below W0.heap.size W0 W5) := Lib.hid (HB0_4.out.trans ((hb : Below W4.heap.size W4 W5).mono HB0_4.out.size))
      have HB1_5 : Hid (Below W1.heap.size W1 W5) := Lib.hid (HB1_4.out.trans ((hb : Below W4.heap.size W4 W5).mono HB1_4.out.size))
      have HB2_5 : Hid (Below W2.heap.size W2 W5) := Lib.hid (HB2_4.out.trans ((hb : Below W4.heap.size W4 W5).mono HB2_4.out.size))
      have HB3_5 : Hid (Below W3.heap.size W3 W5) := Lib.hid (HB3_4.out.trans ((hb : Below W4.heap.size W4 W5).mono HB3_4.out.size))
      have HB4_5 : Hid (Below W4.heap.size W4 W5) := Lib.hid (hb)
      clear hb
      refine hK.out _ _ HB2_5.out (fun _ => ?_)
      clear hK K
      go_simp
      refine wpAnyH_take (i := 4) (v := .bool true) rfl (by kernel_rfl) (by kernel_rfl) (by kernel_rfl) (fun _ _ _ h => h) (Or.inl ⟨by kernel_rfl, ?h4⟩) HB2_5.out ?_
      case h4 => (intro WX hWX; go_simp)
      go_simp
      refine wpAnyH_take (i := 5) (v := .bool true) rfl (by kernel_rfl) (by kernel_rfl) (by kernel_rfl) (fun _ _ _ h => h) (Or.inl ⟨by kernel_rfl, ?h5⟩) HB2_5.out ?_
      case h5 => (intro WX hWX; go_simp)
      go_simp
      refine wpAnyH_take (i := 6) (v := .agg #[.int .i64 al, .int .i64 as_, .int .i64 an]) rfl (by kernel_rfl) (by kernel_rfl) (by kernel_rfl) (fun _ _ _ h => h) (Or.inl ⟨by kernel_rfl, ?h6⟩) HB2_5.out ?_
      case h6 => (intro WX hWX; obtain ⟨y0, y1, y2⟩ := cells3 (HX0_0.out WX (HB0_2.out.trans ((show Below W2.heap.size W2 WX from hWX).mono HB0_2.out.size))); go_simp)
      go_simp
      refine wpAnyH_take (i := 7) (v := .agg #[.int .i64 bl, .int .i64 bs, .int .i64 bn]) rfl (by kernel_rfl) (by kernel_rfl) (by kernel_rfl) (fun _ _ _ h => h) (Or.inl ⟨by kernel_rfl, ?h7⟩) HB2_5.out ?_
      case h7 => (intro WX hWX; obtain ⟨y0, y1, y2⟩ := cells3 (HX1_0.out WX (HB0_2.out.trans ((show Below W2.heap.size W2 WX from hWX).mono HB0_2.out.size))); go_simp)
      go_simp
      refine wpAnyH_take (i := 8) (v := .agg #[.int .i64 cl, .int .i64 cs_, .int .i64 cn]) rfl (by kernel_rfl) (by kernel_rfl) (by kernel_rfl) (fun _ _ _ h => h) (Or.inl ⟨by kernel_rfl, ?h8⟩) HB2_5.out ?_
      case h8 => (intro WX hWX; obtain ⟨y0, y1, y2⟩ := cells3 (HX2_0.out WX (HB0_2.out.trans ((show Below W2.heap.size W2 WX from hWX).mono HB0_2.out.size))); go_simp)
      go_simp
      refine wpAnyH_take (i := 10) (v := .agg #[.int .i64 al, .int .i64 as_, .int .i64 an]) rfl (by kernel_rfl) (by kernel_rfl) (by kernel_rfl) (fun _ _ _ h => h) (Or.inl ⟨by kernel_rfl, ?h10⟩) HB2_5.out ?_
      case h10 => (intro WX hWX; obtain ⟨y0, y1, y2⟩ := cells3 (HX0_0.out WX (HB0_2.out.trans ((show Below W2.heap.size W2 WX from hWX).mono HB0_2.out.size))); go_simp)
      go_simp
      refine wpAnyH_take (i := 11) (v := .agg #[.int .i64 bl, .int .i64 bs, .int .i64 bn]) rfl (by kernel_rfl) (by kernel_rfl) (by kernel_rfl) (fun _ _ _ h => h) (Or.inl ⟨by kernel_rfl, ?h11⟩) HB2_5.out ?_
      case h11 => (intro WX hWX; obtain ⟨y0, y1, y2⟩ := cells3 (HX1_0.out WX (HB0_2.out.trans ((show Below W2.heap.size W2 WX from hWX).mono HB0_2.out.size))); go_simp)
      go_simp
      refine wpAnyH_take (i := 12) (v := .agg #[.int .i64 cl, .int .i64 cs_, .int .i64 cn]) rfl (by kernel_rfl) (by kernel_rfl) (by kernel_rfl) (fun _ _ _ h => h) (Or.inl ⟨by kernel_rfl, ?h12⟩) HB2_5.out ?_
      case h12 => (intro WX hWX; obtain ⟨y0, y1, y2⟩ := cells3 (HX2_0.out WX (HB0_2.out.trans ((show Below W2.heap.size W2 WX from hWX).mono HB0_2.out.size))); go_simp)
      go_simp
      refine wpAnyH_ready (rs := [9]) (by kernel_rfl) (by simp) ?_
      refine AllReadyH.cons rfl (fun K hK => ?_) AllReadyH.nil
      go_simp
      go_wp2_with (refine Calls.mono (against_is al as_ an bl bs bn cl cs_ cn HCb4.out _) ?_; rintro e6 W6 ⟨rfl, hb⟩)
      have HBw6 : Hid (Below w.heap.size w W6) := Lib.hid (HBw5.out.trans ((hb : Below W5.heap.size W5 W6).mono HBw5.out.size))
      have HB0_6 : Hid (Below W0.heap.size W0 W6) := Lib.hid (HB0_5.out.trans ((hb : Below W5.heap.size W5 W6).mono HB0_5.out.size))
      have HB1_6 : Hid (Below W1.heap.size W1 W6) := Lib.hid (HB1_5.out.trans ((hb : Below W5.heap.size W5 W6).mono HB1_5.out.size))
      have HB2_6 : Hid (Below W2.heap.size W2 W6) := Lib.hid (HB2_5.out.trans ((hb : Below W5.heap.size W5 W6).mono HB2_5.out.size))
      have HB3_6 : Hid (Below W3.heap.size W3 W6) := Lib.hid (HB3_5.out.trans ((hb : Below W5.heap.size W5 W6).mono HB3_5.out.size))
      have HB4_6 : Hid (Below W4.heap.size W4 W6) := Lib.hid (HB4_5.out.trans ((hb : Below W5.heap.size W5 W6).mono HB4_5.out.size))
      have HB5_6 : Hid (Below W5.heap.size W5 W6) := Lib.hid (hb)
      clear hb
      refine hK.out _ _ HB2_6.out (fun _ => ?_)
      clear hK K
      go_simp
      refine wpAnyH_ready (rs := [13]) (by kernel_rfl) (by simp) ?_
      refine AllReadyH.cons rfl (fun K hK => ?_) AllReadyH.nil
      go_simp
      go_wp2_with (refine Calls.mono (ragainst_is al as_ an bl bs bn cl cs_ cn HCb4.out _) ?_; rintro e7 W7 ⟨rfl, hb⟩)
      have HBw7 : Hid (Below w.heap.size w W7) := Lib.hid (HBw6.out.trans ((hb : Below W6.heap.size W6 W7).mono HBw6.out.size))
      have HB0_7 : Hid (Below W0.heap.size W0 W7) := Lib.hid (HB0_6.out.trans ((hb : Below W6.heap.size W6 W7).mono HB0_6.out.size))
      have HB1_7 : Hid (Below W1.heap.size W1 W7) := Lib.hid (HB1_6.out.trans ((hb : Below W6.heap.size W6 W7).mono HB1_6.out.size))
      have HB2_7 : Hid (Below W2.heap.size W2 W7) := Lib.hid (HB2_6.out.trans ((hb : Below W6.heap.size W6 W7).mono HB2_6.out.size))
      have HB3_7 : Hid (Below W3.heap.size W3 W7) := Lib.hid (HB3_6.out.trans ((hb : Below W6.heap.size W6 W7).mono HB3_6.out.size))
      have HB4_7 : Hid (Below W4.heap.size W4 W7) := Lib.hid (HB4_6.out.trans ((hb : Below W6.heap.size W6 W7).mono HB4_6.out.size))
      have HB5_7 : Hid (Below W5.heap.size W5 W7) := Lib.hid (HB5_6.out.trans ((hb : Below W6.heap.size W6 W7).mono HB5_6.out.size))
      have HB6_7 : Hid (Below W6.heap.size W6 W7) := Lib.hid (hb)
      clear hb
      refine hK.out _ _ HB2_7.out (fun _ => ?_)
      clear hK K
      go_simp
      refine wpAnyH_take (i := 14) (v := .bool true) rfl (by kernel_rfl) (by kernel_rfl) (by kernel_rfl) (fun _ _ _ h => h) (Or.inl ⟨by kernel_rfl, ?h14⟩) HB2_7.out ?_
      case h14 => (intro WX hWX; go_simp)
      go_simp
      refine wpAnyH_take (i := 15) (v := .bool true) rfl (by kernel_rfl) (by kernel_rfl) (by kernel_rfl) (fun _ _ _ h => h) (Or.inl ⟨by kernel_rfl, ?h15⟩) HB2_7.out ?_
      case h15 => (intro WX hWX; go_simp)
      go_simp
      refine wpAnyH_take (i := 16) (v := .bool true) rfl (by kernel_rfl) (by kernel_rfl) (by kernel_rfl) (fun _ _ _ h => h) (Or.inl ⟨by kernel_rfl, ?h16⟩) HB2_7.out ?_
      case h16 => (intro WX hWX; go_simp)
      go_simp
      refine wpAnyH_take (i := 17) (v := .int .i64 a3) rfl (by kernel_rfl) (by kernel_rfl) (by kernel_rfl) (fun _ _ _ h => h) (Or.inl ⟨by kernel_rfl, ?h17⟩) HB2_7.out ?_
      case h17 => (intro WX hWX; go_simp)
      go_simp
      refine wpAnyH_take (i := 18) (v := .int .i64 a4) rfl (by kernel_rfl) (by kernel_rfl) (by kernel_rfl) (fun _ _ _ h => h) (Or.inl ⟨by kernel_rfl, ?h18⟩) HB2_7.out ?_
      case h18 => (intro WX hWX; go_simp)
      go_simp
      refine wpAnyH_take (i := 19) (v := .int .i64 a5) rfl (by kernel_rfl) (by kernel_rfl) (by kernel_rfl) (fun _ _ _ h => h) (Or.inl ⟨by kernel_rfl, ?h19⟩) HB2_7.out ?_
      case h19 => (intro WX hWX; go_simp)
      go_simp
      refine wpAnyH_take (i := 21) (v := .int .i64 a3) rfl (by kernel_rfl) (by kernel_rfl) (by kernel_rfl) (fun _ _ _ h => h) (Or.inl ⟨by kernel_rfl, ?h21⟩) HB2_7.out ?_
      case h21 => (intro WX hWX; go_simp)
      go_simp
      refine wpAnyH_take (i := 22) (v := .int .i64 a4) rfl (by kernel_rfl) (by kernel_rfl) (by kernel_rfl) (fun _ _ _ h => h) (Or.inl ⟨by kernel_rfl, ?h22⟩) HB2_7.out ?_
      case h22 => (intro WX hWX; go_simp)
      go_simp
      refine wpAnyH_take (i := 23) (v := .int .i64 a5) rfl (by kernel_rfl) (by kernel_rfl) (by kernel_rfl) (fun _ _ _ h => h) (Or.inl ⟨by kernel_rfl, ?h23⟩) HB2_7.out ?_
      case h23 => (intro WX hWX; go_simp)
      go_simp
      refine wpAnyH_ready (rs := [20]) (by kernel_rfl) (by simp) ?_
      refine AllReadyH.cons rfl (fun K hK => ?_) AllReadyH.nil
      go_simp
      go_wp2_with (refine Calls.mono (cap_is a3 a4 a5 HCb5.out _) ?_; rintro e8 W8 ⟨rfl, hb⟩)
      have HBw8 : Hid (Below w.heap.size w W8) := Lib.hid (HBw7.out.trans ((hb : Below W7.heap.size W7 W8).mono HBw7.out.size))
      have HB0_8 : Hid (Below W0.heap.size W0 W8) := Lib.hid (HB0_7.out.trans ((hb : Below W7.heap.size W7 W8).mono HB0_7.out.size))
      have HB1_8 : Hid (Below W1.heap.size W1 W8) := Lib.hid (HB1_7.out.trans ((hb : Below W7.heap.size W7 W8).mono HB1_7.out.size))
      have HB2_8 : Hid (Below W2.heap.size W2 W8) := Lib.hid (HB2_7.out.trans ((hb : Below W7.heap.size W7 W8).mono HB2_7.out.size))
      have HB3_8 : Hid (Below W3.heap.size W3 W8) := Lib.hid (HB3_7.out.trans ((hb : Below W7.heap.size W7 W8).mono HB3_7.out.size))
      have HB4_8 : Hid (Below W4.heap.size W4 W8) := Lib.hid (HB4_7.out.trans ((hb : Below W7.heap.size W7 W8).mono HB4_7.out.size))
      have HB5_8 : Hid (Below W5.heap.size W5 W8) := Lib.hid (HB5_7.out.trans ((hb : Below W7.heap.size W7 W8).mono HB5_7.out.size))
      have HB6_8 : Hid (Below W6.heap.size W6 W8) := Lib.hid (HB6_7.out.trans ((hb : Below W7.heap.size W7 W8).mono HB6_7.out.size))
      have HB7_8 : Hid (Below W7.heap.size W7 W8) := Lib.hid (hb)
      clear hb
      refine hK.out _ _ HB2_8.out (fun _ => ?_)
      clear hK K
      go_simp
      refine wpAnyH_ready (rs := [24]) (by kernel_rfl) (by simp) ?_
      refine AllReadyH.cons rfl (fun K hK => ?_) AllReadyH.nil
      go_simp
      go_wp2_with (refine Calls.mono (rcap_is a3 a4 a5 HCb5.out _) ?_; rintro e9 W9 ⟨rfl, rfl⟩)
      refine hK.out _ _ HB2_8.out (fun _ => ?_)
      clear hK K
      go_simp
      refine wpAnyH_take (i := 25) (v := .bool true) rfl (by kernel_rfl) (by kernel_rfl) (by kernel_rfl) (fun _ _ _ h => h) (Or.inl ⟨by kernel_rfl, ?h25⟩) HB2_8.out ?_
      case h25 => (intro WX hWX; go_simp)
      go_simp
      refine wpAnyH_take (i := 26) (v := .bool true) rfl (by kernel_rfl) (by kernel_rfl) (by kernel_rfl) (fun _ _ _ h => h) (Or.inl ⟨by kernel_rfl, ?h26⟩) HB2_8.out ?_
      case h26 => (intro WX hWX; go_simp)
      go_simp
      refine wpAnyH_take (i := 27) (v := .bool true) rfl (by kernel_rfl) (by kernel_rfl) (by kernel_rfl) (fun _ _ _ h => h) (Or.inl ⟨by kernel_rfl, ?h27⟩) HB2_8.out ?_
      case h27 => (intro WX hWX; go_simp)
      go_simp
      refine wpAnyH_take (i := 28) (v := .agg #[.int .i64 al, .int .i64 as_, .int .i64 an]) rfl (by kernel_rfl) (by kernel_rfl) (by kernel_rfl) (fun _ _ _ h => h) (Or.inl ⟨by kernel_rfl, ?h28⟩) HB2_8.out ?_
      case h28 => (intro WX hWX; obtain ⟨y0, y1, y2⟩ := cells3 (HX0_0.out WX (HB0_2.out.trans ((show Below W2.heap.size W2 WX from hWX).mono HB0_2.out.size))); go_simp)
      go_simp
      refine wpAnyH_take (i := 29) (v := .agg #[.int .i64 bl, .int .i64 bs, .int .i64 bn]) rfl (by kernel_rfl) (by kernel_rfl) (by kernel_rfl) (fun _ _ _ h => h) (Or.inl ⟨by kernel_rfl, ?h29⟩) HB2_8.out ?_
      case h29 => (intro WX hWX; obtain ⟨y0, y1, y2⟩ := cells3 (HX1_0.out WX (HB0_2.out.trans ((show Below W2.heap.size W2 WX from hWX).mono HB0_2.out.size))); go_simp)
      go_simp
      refine wpAnyH_take (i := 31) (v := .agg #[.int .i64 al, .int .i64 as_, .int .i64 an]) rfl (by kernel_rfl) (by kernel_rfl) (by kernel_rfl) (fun _ _ _ h => h) (Or.inl ⟨by kernel_rfl, ?h31⟩) HB2_8.out ?_
      case h31 => (intro WX hWX; obtain ⟨y0, y1, y2⟩ := cells3 (HX0_0.out WX (HB0_2.out.trans ((show Below W2.heap.size W2 WX from hWX).mono HB0_2.out.size))); go_simp)
      go_simp
      refine wpAnyH_take (i := 32) (v := .agg #[.int .i64 bl, .int .i64 bs, .int .i64 bn]) rfl (by kernel_rfl) (by kernel_rfl) (by kernel_rfl) (fun _ _ _ h => h) (Or.inl ⟨by kernel_rfl, ?h32⟩) HB2_8.out ?_
      case h32 => (intro WX hWX; obtain ⟨y0, y1, y2⟩ := cells3 (HX1_0.out WX (HB0_2.out.trans ((show Below W2.heap.size W2 WX from hWX).mono HB0_2.out.size))); go_simp)
      go_simp
      refine wpAnyH_ready (rs := [30]) (by kernel_rfl) (by simp) ?_
      refine AllReadyH.cons rfl (fun K hK => ?_) AllReadyH.nil
      go_simp
      go_wp2_with (refine Calls.mono (lowers_is al as_ an bl bs bn HCb6.out _) ?_; rintro e9 W9 ⟨rfl, hb⟩)
      have HBw9 : Hid (Below w.heap.size w W9) := Lib.hid (HBw8.out.trans ((hb : Below W8.heap.size W8 W9).mono HBw8.out.size))
      have HB0_9 : Hid (Below W0.heap.size W0 W9) := Lib.hid (HB0_8.out.trans ((hb : Below W8.heap.size W8 W9).mono HB0_8.out.size))
      have HB1_9 : Hid (Below W1.heap.size W1 W9) := Lib.hid (HB1_8.out.trans ((hb : Below W8.heap.size W8 W9).mono HB1_8.out.size))
      have HB2_9 : Hid (Below W2.heap.size W2 W9) := Lib.hid (HB2_8.out.trans ((hb : Below W8.heap.size W8 W9).mono HB2_8.out.size))
      have HB3_9 : Hid (Below W3.heap.size W3 W9) := Lib.hid (HB3_8.out.trans ((hb : Below W8.heap.size W8 W9).mono HB3_8.out.size))
      have HB4_9 : Hid (Below W4.heap.size W4 W9) := Lib.hid (HB4_8.out.trans ((hb : Below W8.heap.size W8 W9).mono HB4_8.out.size))
      have HB5_9 : Hid (Below W5.heap.size W5 W9) := Lib.hid (HB5_8.out.trans ((hb : Below W8.heap.size W8 W9).mono HB5_8.out.size))
      have HB6_9 : Hid (Below W6.heap.size W6 W9) := Lib.hid (HB6_8.out.trans ((hb : Below W8.heap.size W8 W9).mono HB6_8.out.size))
      have HB7_9 : Hid (Below W7.heap.size W7 W9) := Lib.hid (HB7_8.out.trans ((hb : Below W8.heap.size W8 W9).mono HB7_8.out.size))
      have HB8_9 : Hid (Below W8.heap.size W8 W9) := Lib.hid (hb)
      clear hb
      refine hK.out _ _ HB2_9.out (fun _ => ?_)
      clear hK K
      go_simp
      refine wpAnyH_ready (rs := [33]) (by kernel_rfl) (by simp) ?_
      refine AllReadyH.cons rfl (fun K hK => ?_) AllReadyH.nil
      go_simp
      go_wp2_with (refine Calls.mono (rlowers_is al as_ an bl bs bn HCb6.out _) ?_; rintro e10 W10 ⟨rfl, hb⟩)
      have HBw10 : Hid (Below w.heap.size w W10) := Lib.hid (HBw9.out.trans ((hb : Below W9.heap.size W9 W10).mono HBw9.out.size))
      have HB0_10 : Hid (Below W0.heap.size W0 W10) := Lib.hid (HB0_9.out.trans ((hb : Below W9.heap.size W9 W10).mono HB0_9.out.size))
      have HB1_10 : Hid (Below W1.heap.size W1 W10) := Lib.hid (HB1_9.out.trans ((hb : Below W9.heap.size W9 W10).mono HB1_9.out.size))
      have HB2_10 : Hid (Below W2.heap.size W2 W10) := Lib.hid (HB2_9.out.trans ((hb : Below W9.heap.size W9 W10).mono HB2_9.out.size))
      have HB3_10 : Hid (Below W3.heap.size W3 W10) := Lib.hid (HB3_9.out.trans ((hb : Below W9.heap.size W9 W10).mono HB3_9.out.size))
      have HB4_10 : Hid (Below W4.heap.size W4 W10) := Lib.hid (HB4_9.out.trans ((hb : Below W9.heap.size W9 W10).mono HB4_9.out.size))
      have HB5_10 : Hid (Below W5.heap.size W5 W10) := Lib.hid (HB5_9.out.trans ((hb : Below W9.heap.size W9 W10).mono HB5_9.out.size))
      have HB6_10 : Hid (Below W6.heap.size W6 W10) := Lib.hid (HB6_9.out.trans ((hb : Below W9.heap.size W9 W10).mono HB6_9.out.size))
      have HB7_10 : Hid (Below W7.heap.size W7 W10) := Lib.hid (HB7_9.out.trans ((hb : Below W9.heap.size W9 W10).mono HB7_9.out.size))
      have HB8_10 : Hid (Below W8.heap.size W8 W10) := Lib.hid (HB8_9.out.trans ((hb : Below W9.heap.size W9 W10).mono HB8_9.out.size))
      have HB9_10 : Hid (Below W9.heap.size W9 W10) := Lib.hid (hb)
      clear hb
      refine hK.out _ _ HB2_10.out (fun _ => ?_)
      clear hK K
      go_simp
      refine wpAnyH_take (i := 34) (v := .bool true) rfl (by kernel_rfl) (by kernel_rfl) (by kernel_rfl) (fun _ _ _ h => h) (Or.inl ⟨by kernel_rfl, ?h34⟩) HB2_10.out ?_
      case h34 => (intro WX hWX; go_simp)
      go_simp
      refine wpAnyH_take (i := 35) (v := .bool true) rfl (by kernel_rfl) (by kernel_rfl) (by kernel_rfl) (fun _ _ _ h => h) (Or.inl ⟨by kernel_rfl, ?h35⟩) HB2_10.out ?_
      case h35 => (intro WX hWX; go_simp)
      go_simp
      refine wpAnyH_take (i := 36) (v := .bool true) rfl (by kernel_rfl) (by kernel_rfl) (by kernel_rfl) (fun _ _ _ h => h) (Or.inl ⟨by kernel_rfl, ?h36⟩) HB2_10.out ?_
      case h36 => (intro WX hWX; go_simp)
      go_simp
      refine wpAnyH_take (i := 37) (v := .int .i64 ws) rfl (by kernel_rfl) (by kernel_rfl) (by kernel_rfl) (fun _ _ _ h => h) (Or.inl ⟨by kernel_rfl, ?h37⟩) HB2_10.out ?_
      case h37 => (intro WX hWX; go_simp)
      go_simp
      refine wpAnyH_take (i := 38) (v := .int .i64 ws) rfl (by kernel_rfl) (by kernel_rfl) (by kernel_rfl) (fun _ _ _ h => h) (Or.inl ⟨by kernel_rfl, ?h38⟩) HB2_10.out ?_
      case h38 => (intro WX hWX; go_simp)
      go_simp
      refine wpAnyH_take (i := 39) (v := .bool true) rfl (by kernel_rfl) (by kernel_rfl) (by kernel_rfl) (fun _ _ _ h => h) (Or.inl ⟨by kernel_rfl, ?h39⟩) HB2_10.out ?_
      case h39 => (intro WX hWX; go_simp)
      go_simp
      refine wpAnyH_take (i := 40) (v := .bool true) rfl (by kernel_rfl) (by kernel_rfl) (by kernel_rfl) (fun _ _ _ h => h) (Or.inl ⟨by kernel_rfl, ?h40⟩) HB2_10.out ?_
      case h40 => (intro WX hWX; go_simp)
      go_simp
      refine wpAnyH_take (i := 41) (v := .bool true) rfl (by kernel_rfl) (by kernel_rfl) (by kernel_rfl) (fun _ _ _ h => h) (Or.inl ⟨by kernel_rfl, ?h41⟩) HB2_10.out ?_
      case h41 => (intro WX hWX; go_simp)
      go_simp
      refine wpAnyH_take (i := 42) (v := .int .i64 0) rfl (by kernel_rfl) (by kernel_rfl) (by kernel_rfl) (fun _ _ _ h => h) (Or.inl ⟨by kernel_rfl, ?h42⟩) HB2_10.out ?_
      case h42 => (intro WX hWX; go_simp)
      go_simp
      refine wpAnyH_take (i := 43) (v := .bool true) rfl (by kernel_rfl) (by kernel_rfl) (by kernel_rfl) (fun _ _ _ h => h) (Or.inl ⟨by kernel_rfl, ?h43⟩) HB2_10.out ?_
      case h43 => (intro WX hWX; go_simp)
      go_simp
      refine wpAnyH_take (i := 44) (v := .bool true) rfl (by kernel_rfl) (by kernel_rfl) (by kernel_rfl) (fun _ _ _ h => h) (Or.inl ⟨by kernel_rfl, ?h44⟩) HB2_10.out ?_
      case h44 => (intro WX hWX; go_simp)
      go_simp
      refine wpAnyH_take (i := 45) (v := .bool true) rfl (by kernel_rfl) (by kernel_rfl) (by kernel_rfl) (fun _ _ _ h => h) (Or.inl ⟨by kernel_rfl, ?h45⟩) HB2_10.out ?_
      case h45 => (intro WX hWX; go_simp)
      go_simp
      refine wpAnyH_take (i := 46) (v := .bool true) rfl (by kernel_rfl) (by kernel_rfl) (by kernel_rfl) (fun _ _ _ h => h) (Or.inl ⟨by kernel_rfl, ?h46⟩) HB2_10.out ?_
      case h46 => (intro WX hWX; go_simp)
      go_simp
      refine wpAnyH_take (i := 47) (v := .bool true) rfl (by kernel_rfl) (by kernel_rfl) (by kernel_rfl) (fun _ _ _ h => h) (Or.inl ⟨by kernel_rfl, ?h47⟩) HB2_10.out ?_
      case h47 => (intro WX hWX; go_simp)
      go_simp
      refine wpAnyH_take (i := 48) (v := .bool true) rfl (by kernel_rfl) (by kernel_rfl) (by kernel_rfl) (fun _ _ _ h => h) (Or.inl ⟨by kernel_rfl, ?h48⟩) HB2_10.out ?_
      case h48 => (intro WX hWX; go_simp)
      go_simp
      refine wpAnyH_take (i := 49) (v := .bool true) rfl (by kernel_rfl) (by kernel_rfl) (by kernel_rfl) (fun _ _ _ h => h) (Or.inl ⟨by kernel_rfl, ?h49⟩) HB2_10.out ?_
      case h49 => (intro WX hWX; go_simp)
      go_simp
      refine wpAnyH_take (i := 50) (v := undef) rfl (by kernel_rfl) (by kernel_rfl) (by kernel_rfl) (fun _ _ _ h => h) (Or.inr ⟨by kernel_rfl, rfl⟩) HB2_10.out ?_
      go_simp
      refine wpAnyH_take (i := 51) (v := undef) rfl (by kernel_rfl) (by kernel_rfl) (by kernel_rfl) (fun _ _ _ h => h) (Or.inr ⟨by kernel_rfl, rfl⟩) HB2_10.out ?_
      go_simp
      refine wpAnyH_take (i := 52) (v := .bool true) rfl (by kernel_rfl) (by kernel_rfl) (by kernel_rfl) (fun _ _ _ h => h) (Or.inl ⟨by kernel_rfl, ?h52⟩) HB2_10.out ?_
      case h52 => (intro WX hWX; go_simp)
      go_simp
      refine wpAnyH_take (i := 53) (v := .bool true) rfl (by kernel_rfl) (by kernel_rfl) (by kernel_rfl) (fun _ _ _ h => h) (Or.inl ⟨by kernel_rfl, ?h53⟩) HB2_10.out ?_
      case h53 => (intro WX hWX; go_simp)
      go_simp
      refine wpAnyH_take (i := 54) (v := .bool true) rfl (by kernel_rfl) (by kernel_rfl) (by kernel_rfl) (fun _ _ _ h => h) (Or.inl ⟨by kernel_rfl, ?h54⟩) HB2_10.out ?_
      case h54 => (intro WX hWX; go_simp)
      go_simp
      refine wpAnyH_done (by kernel_rfl) ?_ _
      go_wp2_with fail
      go_ret
      exact ⟨rec.retB (by first | rfl | (simp; done) | (simp; omega)), HBw10.out⟩
    · go_wp2_with fail
      refine Calls.mono (rwhole_is p6 n6 c6 _ x6 _ (HCL.out.below HBw2.out) HLN.out (by omega) HWH.out (decide_eq_false HEz2.out)) ?_
      rintro e9 W9 ⟨rfl, rfl⟩
      obtain ⟨cb7, HCb7⟩ : ∃ x, Hid (limit.right ⟨cl, cs_, cn⟩ = x) := ⟨_, Lib.hid rfl⟩
      obtain ⟨cb8, HCb8⟩ : ∃ x, Hid (against ⟨al, as_, an⟩ ⟨bl, bs, bn⟩ ⟨cl, cs_, cn⟩ = x) := ⟨_, Lib.hid rfl⟩
      obtain ⟨cb9, HCb9⟩ : ∃ x, Hid (cap a3 a4 a5 = x) := ⟨_, Lib.hid rfl⟩
      obtain ⟨cb10, HCb10⟩ : ∃ x, Hid (lowers ⟨al, as_, an⟩ ⟨bl, bs, bn⟩ = x) := ⟨_, Lib.hid rfl⟩
      have hk11 : we = 3 := ((whole_err HWH.out).resolve_left HEz2.out).2
      have hk11b : (we == 3) = true := by simpa using hk11
      have hk11c : (we != 3) = false := by simpa using hk11
      clear hk11
      go_upto_region 7 with fail
      refine wp_region_held_drew (S := fun W => Below W2.heap.size W2 W) (by kernel_rfl) (Below.refl _ _).drew (fun _ => ?_)
      obtain ⟨W3, hW3⟩ : ∃ x, x = W2.drew := ⟨_, rfl⟩
      rw [← hW3]
      have HBw3 : Hid (Below w.heap.size w W3) := Lib.hid (HBw2.out.trans ((by rw [hW3]; exact (Below.refl _ _).drew : Below W2.heap.size W2 W3).mono HBw2.out.size))
      have HB0_3 : Hid (Below W0.heap.size W0 W3) := Lib.hid (HB0_2.out.trans ((by rw [hW3]; exact (Below.refl _ _).drew : Below W2.heap.size W2 W3).mono HB0_2.out.size))
      have HB1_3 : Hid (Below W1.heap.size W1 W3) := Lib.hid (HB1_2.out.trans ((by rw [hW3]; exact (Below.refl _ _).drew : Below W2.heap.size W2 W3).mono HB1_2.out.size))
      have HB2_3 : Hid (Below W2.heap.size W2 W3) := Lib.hid (by rw [hW3]; exact (Below.refl _ _).drew)
      clear hW3
      refine wpAnyH_take (i := 0) (v := .agg #[.int .i64 cl, .int .i64 cs_, .int .i64 cn]) rfl (by kernel_rfl) (by kernel_rfl) (by kernel_rfl) (fun _ _ _ h => h) (Or.inl ⟨by kernel_rfl, ?h0⟩) HB2_3.out ?_
      case h0 => (intro WX hWX; obtain ⟨y0, y1, y2⟩ := cells3 (HX2_0.out WX (HB0_2.out.trans ((show Below W2.heap.size W2 WX from hWX).mono HB0_2.out.size))); go_simp)
      go_simp
      refine wpAnyH_take (i := 2) (v := .agg #[.int .i64 cl, .int .i64 cs_, .int .i64 cn]) rfl (by kernel_rfl) (by kernel_rfl) (by kernel_rfl) (fun _ _ _ h => h) (Or.inl ⟨by kernel_rfl, ?h2⟩) HB2_3.out ?_
      case h2 => (intro WX hWX; obtain ⟨y0, y1, y2⟩ := cells3 (HX2_0.out WX (HB0_2.out.trans ((show Below W2.heap.size W2 WX from hWX).mono HB0_2.out.size))); go_simp)
      go_simp
      refine wpAnyH_ready (rs := [1]) (by kernel_rfl) (by simp) ?_
      refine AllReadyH.cons rfl (fun K hK => ?_) AllReadyH.nil
      go_simp
      go_wp2_with (refine Calls.mono (right_is cl cs_ cn HCb7.out _) ?_; rintro e4 W4 ⟨rfl, hb⟩)
      have HBw4 : Hid (Below w.heap.size w W4) := Lib.hid (HBw3.out.trans ((hb : Below W3.heap.size W3 W4).mono HBw3.out.size))
      have HB0_4 : Hid (Below W0.heap.size W0 W4) := Lib.hid (HB0_3.out.trans ((hb : Below W3.heap.size W3 W4).mono HB0_3.out.size))
      have HB1_4 : Hid (Below W1.heap.size W1 W4) := Lib.hid (HB1_3.out.trans ((hb : Below W3.heap.size W3 W4).mono HB1_3.out.size))
      have HB2_4 : Hid (Below W2.heap.size W2 W4) := Lib.hid (HB2_3.out.trans ((hb : Below W3.heap.size W3 W4).mono HB2_3.out.size))
      have HB3_4 : Hid (Below W3.heap.size W3 W4) := Lib.hid (hb)
      clear hb
      refine hK.out _ _ HB2_4.out (fun _ => ?_)
      clear hK K
      go_simp
      refine wpAnyH_ready (rs := [3]) (by kernel_rfl) (by simp) ?_
      refine AllReadyH.cons rfl (fun K hK => ?_) AllReadyH.nil
      go_simp
      go_wp2_with (refine Calls.mono (rright_is cl cs_ cn HCb7.out _) ?_; rintro e5 W5 ⟨rfl, hb⟩)
      have HBw5 : Hid (Below w.heap.size w W5) := Lib.hid (HBw4.out.trans ((hb : Below W4.heap.size W4 W5).mono HBw4.out.size))
      have HB0_5 : Hid (Below W0.heap.size W0 W5) := Lib.hid (HB0_4.out.trans ((hb : Below W4.heap.size W4 W5).mono HB0_4.out.size))
      have HB1_5 : Hid (Below W1.heap.size W1 W5) := Lib.hid (HB1_4.out.trans ((hb : Below W4.heap.size W4 W5).mono HB1_4.out.size))
      have HB2_5 : Hid (Below W2.heap.size W2 W5) := Lib.hid (HB2_4.out.trans ((hb : Below W4.heap.size W4 W5).mono HB2_4.out.size))
      have HB3_5 : Hid (Below W3.heap.size W3 W5) := Lib.hid (HB3_4.out.trans ((hb : Below W4.heap.size W4 W5).mono HB3_4.out.size))
      have HB4_5 : Hid (Below W4.heap.size W4 W5) := Lib.hid (hb)
      clear hb
      refine hK.out _ _ HB2_5.out (fun _ => ?_)
      clear hK K
      go_simp
      refine wpAnyH_take (i := 4) (v := .bool true) rfl (by kernel_rfl) (by kernel_rfl) (by kernel_rfl) (fun _ _ _ h => h) (Or.inl ⟨by kernel_rfl, ?h4⟩) HB2_5.out ?_
      case h4 => (intro WX hWX; go_simp)
      go_simp
      refine wpAnyH_take (i := 5) (v := .bool true) rfl (by kernel_rfl) (by kernel_rfl) (by kernel_rfl) (fun _ _ _ h => h) (Or.inl ⟨by kernel_rfl, ?h5⟩) HB2_5.out ?_
      case h5 => (intro WX hWX; go_simp)
      go_simp
      refine wpAnyH_take (i := 6) (v := .agg #[.int .i64 al, .int .i64 as_, .int .i64 an]) rfl (by kernel_rfl) (by kernel_rfl) (by kernel_rfl) (fun _ _ _ h => h) (Or.inl ⟨by kernel_rfl, ?h6⟩) HB2_5.out ?_
      case h6 => (intro WX hWX; obtain ⟨y0, y1, y2⟩ := cells3 (HX0_0.out WX (HB0_2.out.trans ((show Below W2.heap.size W2 WX from hWX).mono HB0_2.out.size))); go_simp)
      go_simp
      refine wpAnyH_take (i := 7) (v := .agg #[.int .i64 bl, .int .i64 bs, .int .i64 bn]) rfl (by kernel_rfl) (by kernel_rfl) (by kernel_rfl) (fun _ _ _ h => h) (Or.inl ⟨by kernel_rfl, ?h7⟩) HB2_5.out ?_
      case h7 => (intro WX hWX; obtain ⟨y0, y1, y2⟩ := cells3 (HX1_0.out WX (HB0_2.out.trans ((show Below W2.heap.size W2 WX from hWX).mono HB0_2.out.size))); go_simp)
      go_simp
      refine wpAnyH_take (i := 8) (v := .agg #[.int .i64 cl, .int .i64 cs_, .int .i64 cn]) rfl (by kernel_rfl) (by kernel_rfl) (by kernel_rfl) (fun _ _ _ h => h) (Or.inl ⟨by kernel_rfl, ?h8⟩) HB2_5.out ?_
      case h8 => (intro WX hWX; obtain ⟨y0, y1, y2⟩ := cells3 (HX2_0.out WX (HB0_2.out.trans ((show Below W2.heap.size W2 WX from hWX).mono HB0_2.out.size))); go_simp)
      go_simp
      refine wpAnyH_take (i := 10) (v := .agg #[.int .i64 al, .int .i64 as_, .int .i64 an]) rfl (by kernel_rfl) (by kernel_rfl) (by kernel_rfl) (fun _ _ _ h => h) (Or.inl ⟨by kernel_rfl, ?h10⟩) HB2_5.out ?_
      case h10 => (intro WX hWX; obtain ⟨y0, y1, y2⟩ := cells3 (HX0_0.out WX (HB0_2.out.trans ((show Below W2.heap.size W2 WX from hWX).mono HB0_2.out.size))); go_simp)
      go_simp
      refine wpAnyH_take (i := 11) (v := .agg #[.int .i64 bl, .int .i64 bs, .int .i64 bn]) rfl (by kernel_rfl) (by kernel_rfl) (by kernel_rfl) (fun _ _ _ h => h) (Or.inl ⟨by kernel_rfl, ?h11⟩) HB2_5.out ?_
      case h11 => (intro WX hWX; obtain ⟨y0, y1, y2⟩ := cells3 (HX1_0.out WX (HB0_2.out.trans ((show Below W2.heap.size W2 WX from hWX).mono HB0_2.out.size))); go_simp)
      go_simp
      refine wpAnyH_take (i := 12) (v := .agg #[.int .i64 cl, .int .i64 cs_, .int .i64 cn]) rfl (by kernel_rfl) (by kernel_rfl) (by kernel_rfl) (fun _ _ _ h => h) (Or.inl ⟨by kernel_rfl, ?h12⟩) HB2_5.out ?_
      case h12 => (intro WX hWX; obtain ⟨y0, y1, y2⟩ := cells3 (HX2_0.out WX (HB0_2.out.trans ((show Below W2.heap.size W2 WX from hWX).mono HB0_2.out.size))); go_simp)
      go_simp
      refine wpAnyH_ready (rs := [9]) (by kernel_rfl) (by simp) ?_
      refine AllReadyH.cons rfl (fun K hK => ?_) AllReadyH.nil
      go_simp
      go_wp2_with (refine Calls.mono (against_is al as_ an bl bs bn cl cs_ cn HCb8.out _) ?_; rintro e6 W6 ⟨rfl, hb⟩)
      have HBw6 : Hid (Below w.heap.size w W6) := Lib.hid (HBw5.out.trans ((hb : Below W5.heap.size W5 W6).mono HBw5.out.size))
      have HB0_6 : Hid (Below W0.heap.size W0 W6) := Lib.hid (HB0_5.out.trans ((hb : Below W5.heap.size W5 W6).mono HB0_5.out.size))
      have HB1_6 : Hid (Below W1.heap.size W1 W6) := Lib.hid (HB1_5.out.trans ((hb : Below W5.heap.size W5 W6).mono HB1_5.out.size))
      have HB2_6 : Hid (Below W2.heap.size W2 W6) := Lib.hid (HB2_5.out.trans ((hb : Below W5.heap.size W5 W6).mono HB2_5.out.size))
      have HB3_6 : Hid (Below W3.heap.size W3 W6) := Lib.hid (HB3_5.out.trans ((hb : Below W5.heap.size W5 W6).mono HB3_5.out.size))
      have HB4_6 : Hid (Below W4.heap.size W4 W6) := Lib.hid (HB4_5.out.trans ((hb : Below W5.heap.size W5 W6).mono HB4_5.out.size))
      have HB5_6 : Hid (Below W5.heap.size W5 W6) := Lib.hid (hb)
      clear hb
      refine hK.out _ _ HB2_6.out (fun _ => ?_)
      clear hK K
      go_simp
      refine wpAnyH_ready (rs := [13]) (by kernel_rfl) (by simp) ?_
      refine AllReadyH.cons rfl (fun K hK => ?_) AllReadyH.nil
      go_simp
      go_wp2_with (refine Calls.mono (ragainst_is al as_ an bl bs bn cl cs_ cn HCb8.out _) ?_; rintro e7 W7 ⟨rfl, hb⟩)
      have HBw7 : Hid (Below w.heap.size w W7) := Lib.hid (HBw6.out.trans ((hb : Below W6.heap.size W6 W7).mono HBw6.out.size))
      have HB0_7 : Hid (Below W0.heap.size W0 W7) := Lib.hid (HB0_6.out.trans ((hb : Below W6.heap.size W6 W7).mono HB0_6.out.size))
      have HB1_7 : Hid (Below W1.heap.size W1 W7) := Lib.hid (HB1_6.out.trans ((hb : Below W6.heap.size W6 W7).mono HB1_6.out.size))
      have HB2_7 : Hid (Below W2.heap.size W2 W7) := Lib.hid (HB2_6.out.trans ((hb : Below W6.heap.size W6 W7).mono HB2_6.out.size))
      have HB3_7 : Hid (Below W3.heap.size W3 W7) := Lib.hid (HB3_6.out.trans ((hb : Below W6.heap.size W6 W7).mono HB3_6.out.size))
      have HB4_7 : Hid (Below W4.heap.size W4 W7) := Lib.hid (HB4_6.out.trans ((hb : Below W6.heap.size W6 W7).mono HB4_6.out.size))
      have HB5_7 : Hid (Below W5.heap.size W5 W7) := Lib.hid (HB5_6.out.trans ((hb : Below W6.heap.size W6 W7).mono HB5_6.out.size))
      have HB6_7 : Hid (Below W6.heap.size W6 W7) := Lib.hid (hb)
      clear hb
      refine hK.out _ _ HB2_7.out (fun _ => ?_)
      clear hK K
      go_simp
      refine wpAnyH_take (i := 14) (v := .bool true) rfl (by kernel_rfl) (by kernel_rfl) (by kernel_rfl) (fun _ _ _ h => h) (Or.inl ⟨by kernel_rfl, ?h14⟩) HB2_7.out ?_
      case h14 => (intro WX hWX; go_simp)
      go_simp
      refine wpAnyH_take (i := 15) (v := .bool true) rfl (by kernel_rfl) (by kernel_rfl) (by kernel_rfl) (fun _ _ _ h => h) (Or.inl ⟨by kernel_rfl, ?h15⟩) HB2_7.out ?_
      case h15 => (intro WX hWX; go_simp)
      go_simp
      refine wpAnyH_take (i := 16) (v := .bool true) rfl (by kernel_rfl) (by kernel_rfl) (by kernel_rfl) (fun _ _ _ h => h) (Or.inl ⟨by kernel_rfl, ?h16⟩) HB2_7.out ?_
      case h16 => (intro WX hWX; go_simp)
      go_simp
      refine wpAnyH_take (i := 17) (v := .int .i64 a3) rfl (by kernel_rfl) (by kernel_rfl) (by kernel_rfl) (fun _ _ _ h => h) (Or.inl ⟨by kernel_rfl, ?h17⟩) HB2_7.out ?_
      case h17 => (intro WX hWX; go_simp)
      go_simp
      refine wpAnyH_take (i := 18) (v := .int .i64 a4) rfl (by kernel_rfl) (by kernel_rfl) (by kernel_rfl) (fun _ _ _ h => h) (Or.inl ⟨by kernel_rfl, ?h18⟩) HB2_7.out ?_
      case h18 => (intro WX hWX; go_simp)
      go_simp
      refine wpAnyH_take (i := 19) (v := .int .i64 a5) rfl (by kernel_rfl) (by kernel_rfl) (by kernel_rfl) (fun _ _ _ h => h) (Or.inl ⟨by kernel_rfl, ?h19⟩) HB2_7.out ?_
      case h19 => (intro WX hWX; go_simp)
      go_simp
      refine wpAnyH_take (i := 21) (v := .int .i64 a3) rfl (by kernel_rfl) (by kernel_rfl) (by kernel_rfl) (fun _ _ _ h => h) (Or.inl ⟨by kernel_rfl, ?h21⟩) HB2_7.out ?_
      case h21 => (intro WX hWX; go_simp)
      go_simp
      refine wpAnyH_take (i := 22) (v := .int .i64 a4) rfl (by kernel_rfl) (by kernel_rfl) (by kernel_rfl) (fun _ _ _ h => h) (Or.inl ⟨by kernel_rfl, ?h22⟩) HB2_7.out ?_
      case h22 => (intro WX hWX; go_simp)
      go_simp
      refine wpAnyH_take (i := 23) (v := .int .i64 a5) rfl (by kernel_rfl) (by kernel_rfl) (by kernel_rfl) (fun _ _ _ h => h) (Or.inl ⟨by kernel_rfl, ?h23⟩) HB2_7.out ?_
      case h23 => (intro WX hWX; go_simp)
      go_simp
      refine wpAnyH_ready (rs := [20]) (by kernel_rfl) (by simp) ?_
      refine AllReadyH.cons rfl (fun K hK => ?_) AllReadyH.nil
      go_simp
      go_wp2_with (refine Calls.mono (cap_is a3 a4 a5 HCb9.out _) ?_; rintro e8 W8 ⟨rfl, hb⟩)
      have HBw8 : Hid (Below w.heap.size w W8) := Lib.hid (HBw7.out.trans ((hb : Below W7.heap.size W7 W8).mono HBw7.out.size))
      have HB0_8 : Hid (Below W0.heap.size W0 W8) := Lib.hid (HB0_7.out.trans ((hb : Below W7.heap.size W7 W8).mono HB0_7.out.size))
      have HB1_8 : Hid (Below W1.heap.size W1 W8) := Lib.hid (HB1_7.out.trans ((hb : Below W7.heap.size W7 W8).mono HB1_7.out.size))
      have HB2_8 : Hid (Below W2.heap.size W2 W8) := Lib.hid (HB2_7.out.trans ((hb : Below W7.heap.size W7 W8).mono HB2_7.out.size))
      have HB3_8 : Hid (Below W3.heap.size W3 W8) := Lib.hid (HB3_7.out.trans ((hb : Below W7.heap.size W7 W8).mono HB3_7.out.size))
      have HB4_8 : Hid (Below W4.heap.size W4 W8) := Lib.hid (HB4_7.out.trans ((hb : Below W7.heap.size W7 W8).mono HB4_7.out.size))
      have HB5_8 : Hid (Below W5.heap.size W5 W8) := Lib.hid (HB5_7.out.trans ((hb : Below W7.heap.size W7 W8).mono HB5_7.out.size))
      have HB6_8 : Hid (Below W6.heap.size W6 W8) := Lib.hid (HB6_7.out.trans ((hb : Below W7.heap.size W7 W8).mono HB6_7.out.size))
      have HB7_8 : Hid (Below W7.heap.size W7 W8) := Lib.hid (hb)
      clear hb
      refine hK.out _ _ HB2_8.out (fun _ => ?_)
      clear hK K
      go_simp
      refine wpAnyH_ready (rs := [24]) (by kernel_rfl) (by simp) ?_
      refine AllReadyH.cons rfl (fun K hK => ?_) AllReadyH.nil
      go_simp
      go_wp2_with (refine Calls.mono (rcap_is a3 a4 a5 HCb9.out _) ?_; rintro e9 W9 ⟨rfl, rfl⟩)
      refine hK.out _ _ HB2_8.out (fun _ => ?_)
      clear hK K
      go_simp
      refine wpAnyH_take (i := 25) (v := .bool true) rfl (by kernel_rfl) (by kernel_rfl) (by kernel_rfl) (fun _ _ _ h => h) (Or.inl ⟨by kernel_rfl, ?h25⟩) HB2_8.out ?_
      case h25 => (intro WX hWX; go_simp)
      go_simp
      refine wpAnyH_take (i := 26) (v := .bool true) rfl (by kernel_rfl) (by kernel_rfl) (by kernel_rfl) (fun _ _ _ h => h) (Or.inl ⟨by kernel_rfl, ?h26⟩) HB2_8.out ?_
      case h26 => (intro WX hWX; go_simp)
      go_simp
      refine wpAnyH_take (i := 27) (v := .bool true) rfl (by kernel_rfl) (by kernel_rfl) (by kernel_rfl) (fun _ _ _ h => h) (Or.inl ⟨by kernel_rfl, ?h27⟩) HB2_8.out ?_
      case h27 => (intro WX hWX; go_simp)
      go_simp
      refine wpAnyH_take (i := 28) (v := .agg #[.int .i64 al, .int .i64 as_, .int .i64 an]) rfl (by kernel_rfl) (by kernel_rfl) (by kernel_rfl) (fun _ _ _ h => h) (Or.inl ⟨by kernel_rfl, ?h28⟩) HB2_8.out ?_
      case h28 => (intro WX hWX; obtain ⟨y0, y1, y2⟩ := cells3 (HX0_0.out WX (HB0_2.out.trans ((show Below W2.heap.size W2 WX from hWX).mono HB0_2.out.size))); go_simp)
      go_simp
      refine wpAnyH_take (i := 29) (v := .agg #[.int .i64 bl, .int .i64 bs, .int .i64 bn]) rfl (by kernel_rfl) (by kernel_rfl) (by kernel_rfl) (fun _ _ _ h => h) (Or.inl ⟨by kernel_rfl, ?h29⟩) HB2_8.out ?_
      case h29 => (intro WX hWX; obtain ⟨y0, y1, y2⟩ := cells3 (HX1_0.out WX (HB0_2.out.trans ((show Below W2.heap.size W2 WX from hWX).mono HB0_2.out.size))); go_simp)
      go_simp
      refine wpAnyH_take (i := 31) (v := .agg #[.int .i64 al, .int .i64 as_, .int .i64 an]) rfl (by kernel_rfl) (by kernel_rfl) (by kernel_rfl) (fun _ _ _ h => h) (Or.inl ⟨by kernel_rfl, ?h31⟩) HB2_8.out ?_
      case h31 => (intro WX hWX; obtain ⟨y0, y1, y2⟩ := cells3 (HX0_0.out WX (HB0_2.out.trans ((show Below W2.heap.size W2 WX from hWX).mono HB0_2.out.size))); go_simp)
      go_simp
      refine wpAnyH_take (i := 32) (v := .agg #[.int .i64 bl, .int .i64 bs, .int .i64 bn]) rfl (by kernel_rfl) (by kernel_rfl) (by kernel_rfl) (fun _ _ _ h => h) (Or.inl ⟨by kernel_rfl, ?h32⟩) HB2_8.out ?_
      case h32 => (intro WX hWX; obtain ⟨y0, y1, y2⟩ := cells3 (HX1_0.out WX (HB0_2.out.trans ((show Below W2.heap.size W2 WX from hWX).mono HB0_2.out.size))); go_simp)
      go_simp
      refine wpAnyH_ready (rs := [30]) (by kernel_rfl) (by simp) ?_
      refine AllReadyH.cons rfl (fun K hK => ?_) AllReadyH.nil
      go_simp
      go_wp2_with (refine Calls.mono (lowers_is al as_ an bl bs bn HCb10.out _) ?_; rintro e9 W9 ⟨rfl, hb⟩)
      have HBw9 : Hid (Below w.heap.size w W9) := Lib.hid (HBw8.out.trans ((hb : Below W8.heap.size W8 W9).mono HBw8.out.size))
      have HB0_9 : Hid (Below W0.heap.size W0 W9) := Lib.hid (HB0_8.out.trans ((hb : Below W8.heap.size W8 W9).mono HB0_8.out.size))
      have HB1_9 : Hid (Below W1.heap.size W1 W9) := Lib.hid (HB1_8.out.trans ((hb : Below W8.heap.size W8 W9).mono HB1_8.out.size))
      have HB2_9 : Hid (Below W2.heap.size W2 W9) := Lib.hid (HB2_8.out.trans ((hb : Below W8.heap.size W8 W9).mono HB2_8.out.size))
      have HB3_9 : Hid (Below W3.heap.size W3 W9) := Lib.hid (HB3_8.out.trans ((hb : Below W8.heap.size W8 W9).mono HB3_8.out.size))
      have HB4_9 : Hid (Below W4.heap.size W4 W9) := Lib.hid (HB4_8.out.trans ((hb : Below W8.heap.size W8 W9).mono HB4_8.out.size))
      have HB5_9 : Hid (Below W5.heap.size W5 W9) := Lib.hid (HB5_8.out.trans ((hb : Below W8.heap.size W8 W9).mono HB5_8.out.size))
      have HB6_9 : Hid (Below W6.heap.size W6 W9) := Lib.hid (HB6_8.out.trans ((hb : Below W8.heap.size W8 W9).mono HB6_8.out.size))
      have HB7_9 : Hid (Below W7.heap.size W7 W9) := Lib.hid (HB7_8.out.trans ((hb : Below W8.heap.size W8 W9).mono HB7_8.out.size))
      have HB8_9 : Hid (Below W8.heap.size W8 W9) := Lib.hid (hb)
      clear hb
      refine hK.out _ _ HB2_9.out (fun _ => ?_)
      clear hK K
      go_simp
      refine wpAnyH_ready (rs := [33]) (by kernel_rfl) (by simp) ?_
      refine AllReadyH.cons rfl (fun K hK => ?_) AllReadyH.nil
      go_simp
      go_wp2_with (refine Calls.mono (rlowers_is al as_ an bl bs bn HCb10.out _) ?_; rintro e10 W10 ⟨rfl, hb⟩)
      have HBw10 : Hid (Below w.heap.size w W10) := Lib.hid (HBw9.out.trans ((hb : Below W9.heap.size W9 W10).mono HBw9.out.size))
      have HB0_10 : Hid (Below W0.heap.size W0 W10) := Lib.hid (HB0_9.out.trans ((hb : Below W9.heap.size W9 W10).mono HB0_9.out.size))
      have HB1_10 : Hid (Below W1.heap.size W1 W10) := Lib.hid (HB1_9.out.trans ((hb : Below W9.heap.size W9 W10).mono HB1_9.out.size))
      have HB2_10 : Hid (Below W2.heap.size W2 W10) := Lib.hid (HB2_9.out.trans ((hb : Below W9.heap.size W9 W10).mono HB2_9.out.size))
      have HB3_10 : Hid (Below W3.heap.size W3 W10) := Lib.hid (HB3_9.out.trans ((hb : Below W9.heap.size W9 W10).mono HB3_9.out.size))
      have HB4_10 : Hid (Below W4.heap.size W4 W10) := Lib.hid (HB4_9.out.trans ((hb : Below W9.heap.size W9 W10).mono HB4_9.out.size))
      have HB5_10 : Hid (Below W5.heap.size W5 W10) := Lib.hid (HB5_9.out.trans ((hb : Below W9.heap.size W9 W10).mono HB5_9.out.size))
      have HB6_10 : Hid (Below W6.heap.size W6 W10) := Lib.hid (HB6_9.out.trans ((hb : Below W9.heap.size W9 W10).mono HB6_9.out.size))
      have HB7_10 : Hid (Below W7.heap.size W7 W10) := Lib.hid (HB7_9.out.trans ((hb : Below W9.heap.size W9 W10).mono HB7_9.out.size))
      have HB8_10 : Hid (Below W8.heap.size W8 W10) := Lib.hid (HB8_9.out.trans ((hb : Below W9.heap.size W9 W10).mono HB8_9.out.size))
      have HB9_10 : Hid (Below W9.heap.size W9 W10) := Lib.hid (hb)
      clear hb
      refine hK.out _ _ HB2_10.out (fun _ => ?_)
      clear hK K
      go_simp
      refine wpAnyH_take (i := 34) (v := .bool true) rfl (by kernel_rfl) (by kernel_rfl) (by kernel_rfl) (fun _ _ _ h => h) (Or.inl ⟨by kernel_rfl, ?h34⟩) HB2_10.out ?_
      case h34 => (intro WX hWX; go_simp)
      go_simp
      refine wpAnyH_take (i := 35) (v := .bool true) rfl (by kernel_rfl) (by kernel_rfl) (by kernel_rfl) (fun _ _ _ h => h) (Or.inl ⟨by kernel_rfl, ?h35⟩) HB2_10.out ?_
      case h35 => (intro WX hWX; go_simp)
      go_simp
      refine wpAnyH_take (i := 36) (v := .bool true) rfl (by kernel_rfl) (by kernel_rfl) (by kernel_rfl) (fun _ _ _ h => h) (Or.inl ⟨by kernel_rfl, ?h36⟩) HB2_10.out ?_
      case h36 => (intro WX hWX; go_simp)
      go_simp
      refine wpAnyH_take (i := 37) (v := .int .i64 ws) rfl (by kernel_rfl) (by kernel_rfl) (by kernel_rfl) (fun _ _ _ h => h) (Or.inl ⟨by kernel_rfl, ?h37⟩) HB2_10.out ?_
      case h37 => (intro WX hWX; go_simp)
      go_simp
      refine wpAnyH_take (i := 38) (v := .int .i64 ws) rfl (by kernel_rfl) (by kernel_rfl) (by kernel_rfl) (fun _ _ _ h => h) (Or.inl ⟨by kernel_rfl, ?h38⟩) HB2_10.out ?_
      case h38 => (intro WX hWX; go_simp)
      go_simp
      refine wpAnyH_take (i := 39) (v := .bool true) rfl (by kernel_rfl) (by kernel_rfl) (by kernel_rfl) (fun _ _ _ h => h) (Or.inl ⟨by kernel_rfl, ?h39⟩) HB2_10.out ?_
      case h39 => (intro WX hWX; go_simp)
      go_simp
      refine wpAnyH_take (i := 40) (v := .bool true) rfl (by kernel_rfl) (by kernel_rfl) (by kernel_rfl) (fun _ _ _ h => h) (Or.inl ⟨by kernel_rfl, ?h40⟩) HB2_10.out ?_
      case h40 => (intro WX hWX; go_simp)
      go_simp
      refine wpAnyH_take (i := 41) (v := .bool true) rfl (by kernel_rfl) (by kernel_rfl) (by kernel_rfl) (fun _ _ _ h => h) (Or.inl ⟨by kernel_rfl, ?h41⟩) HB2_10.out ?_
      case h41 => (intro WX hWX; go_simp)
      go_simp
      refine wpAnyH_take (i := 42) (v := .int .i64 we) rfl (by kernel_rfl) (by kernel_rfl) (by kernel_rfl) (fun _ _ _ h => h) (Or.inl ⟨by kernel_rfl, ?h42⟩) HB2_10.out ?_
      case h42 => (intro WX hWX; go_simp)
      go_simp
      refine wpAnyH_take (i := 43) (v := .bool false) rfl (by kernel_rfl) (by kernel_rfl) (by kernel_rfl) (fun _ _ _ h => h) (Or.inl ⟨by kernel_rfl, ?h43⟩) HB2_10.out ?_
      case h43 => (intro WX hWX; go_simp)
      go_simp
      refine wpAnyH_take (i := 44) (v := .bool false) rfl (by kernel_rfl) (by kernel_rfl) (by kernel_rfl) (fun _ _ _ h => h) (Or.inl ⟨by kernel_rfl, ?h44⟩) HB2_10.out ?_
      case h44 => (intro WX hWX; go_simp)
      go_simp
      refine wpAnyH_take (i := 45) (v := .bool true) rfl (by kernel_rfl) (by kernel_rfl) (by kernel_rfl) (fun _ _ _ h => h) (Or.inl ⟨by kernel_rfl, ?h45⟩) HB2_10.out ?_
      case h45 => (intro WX hWX; go_simp)
      go_simp
      refine wpAnyH_take (i := 46) (v := .bool true) rfl (by kernel_rfl) (by kernel_rfl) (by kernel_rfl) (fun _ _ _ h => h) (Or.inl ⟨by kernel_rfl, ?h46⟩) HB2_10.out ?_
      case h46 => (intro WX hWX; go_simp)
      go_simp
      refine wpAnyH_take (i := 47) (v := .bool true) rfl (by kernel_rfl) (by kernel_rfl) (by kernel_rfl) (fun _ _ _ h => h) (Or.inl ⟨by kernel_rfl, ?h47⟩) HB2_10.out ?_
      case h47 => (intro WX hWX; go_simp)
      go_simp
      refine wpAnyH_take (i := 48) (v := .bool false) rfl (by kernel_rfl) (by kernel_rfl) (by kernel_rfl) (fun _ _ _ h => h) (Or.inl ⟨by kernel_rfl, ?h48⟩) HB2_10.out ?_
      case h48 => (intro WX hWX; go_simp)
      go_simp
      refine wpAnyH_take (i := 49) (v := .bool false) rfl (by kernel_rfl) (by kernel_rfl) (by kernel_rfl) (fun _ _ _ h => h) (Or.inl ⟨by kernel_rfl, ?h49⟩) HB2_10.out ?_
      case h49 => (intro WX hWX; go_simp)
      go_simp
      refine wpAnyH_take (i := 50) (v := .int .i64 we) rfl (by kernel_rfl) (by kernel_rfl) (by kernel_rfl) (fun _ _ _ h => h) (Or.inl ⟨by kernel_rfl, ?h50⟩) HB2_10.out ?_
      case h50 => (intro WX hWX; go_simp)
      go_simp
      refine wpAnyH_take (i := 51) (v := .bool true) rfl (by kernel_rfl) (by kernel_rfl) (by kernel_rfl) (fun _ _ _ h => h) (Or.inl ⟨by kernel_rfl, ?h51⟩) HB2_10.out ?_
      case h51 => (intro WX hWX; go_simp)
      go_simp
      refine wpAnyH_take (i := 52) (v := .bool true) rfl (by kernel_rfl) (by kernel_rfl) (by kernel_rfl) (fun _ _ _ h => h) (Or.inl ⟨by kernel_rfl, ?h52⟩) HB2_10.out ?_
      case h52 => (intro WX hWX; go_simp)
      go_simp
      refine wpAnyH_take (i := 53) (v := .bool true) rfl (by kernel_rfl) (by kernel_rfl) (by kernel_rfl) (fun _ _ _ h => h) (Or.inl ⟨by kernel_rfl, ?h53⟩) HB2_10.out ?_
      case h53 => (intro WX hWX; go_simp)
      go_simp
      refine wpAnyH_take (i := 54) (v := .bool true) rfl (by kernel_rfl) (by kernel_rfl) (by kernel_rfl) (fun _ _ _ h => h) (Or.inl ⟨by kernel_rfl, ?h54⟩) HB2_10.out ?_
      case h54 => (intro WX hWX; go_simp)
      go_simp
      refine wpAnyH_done (by kernel_rfl) ?_ _
      go_wp2_with fail
      go_ret
      exact ⟨rec.retB (by first | rfl | (simp; done) | (simp; omega)), HBw10.out⟩
  -- WALK ENDS

set_option maxRecDepth 100000 in
theorem lifted (os : Os) (started : os.Started) (H : Type) (enc : TypeId × Value → H) :
    ReturnsInHanded {} Try.checked os 3 .any (Rows.limitRightSpec.pre6 enc Try.prog Try.f3 Rows.limitRightRow.domain false) (Rows.limitRightSpec.post enc Try.prog Try.f3 false true false false) := by
  refine returnsInHanded_of_change (C := Try.checked) own started (by kernel_rfl) Try.func3
    (ChangeSpec.witness6 (enc := enc) (C := Try.checked) false ⟨#[], #[.agg #[.int .i64 0, .int .i64 0, .int .i64 0], .agg #[.int .i64 0, .int .i64 0, .int .i64 0], .agg #[.int .i64 0, .int .i64 0, .int .i64 0], .int .i64 0, .int .i64 0, .int .i64 0, .slice none 0 0], []⟩ 8 (by kernel_rfl) (by kernel_rfl) (by kernel_rfl) (by kernel_rfl)) ?_
  intro W base args ds gs before hval0 hW hcnd _
  have hval : ∀ (j : Nat) t v, Try.f3.params[j]? = some t → args[j]? = some v → Value.okWide Try.prog W .any base t v := hval0
  have hW' := hW
  obtain ⟨p, q, hA0, hV, rfl, hfz, hnd⟩ := hW
  have hA : DataW.TrodAll enc Try.prog W 0 (fun _ => true) true Try.f3.params.toList args.toList ds p := hA0
  rw [Try.params3] at hA hval
  obtain ⟨v0, vs0, d0, ds0, p0_, q0, hargs, rfl, rfl, h0, r0⟩ := trodAll_cons hA
  obtain ⟨v1, vs1, d1, ds1, p1_, q1, rfl, rfl, rfl, h1, r1⟩ := trodAll_cons r0
  obtain ⟨v2, vs2, d2, ds2, p2_, q2, rfl, rfl, rfl, h2, r2⟩ := trodAll_cons r1
  obtain ⟨v3, vs3, d3, ds3, p3_, q3, rfl, rfl, rfl, h3, r3⟩ := trodAll_cons r2
  obtain ⟨v4, vs4, d4, ds4, p4_, q4, rfl, rfl, rfl, h4, r4⟩ := trodAll_cons r3
  obtain ⟨v5, vs5, d5, ds5, p5_, q5, rfl, rfl, rfl, h5, r5⟩ := trodAll_cons r4
  obtain ⟨v6, vs6, d6, ds6, p6_, q6, rfl, rfl, rfl, h6, r6⟩ := trodAll_cons r5
  obtain ⟨rfl, rfl, rfl⟩ := trodAll_nil r6
  obtain rfl : args = #[v0, v1, v2, v3, v4, v5, v6] := by cases args; simp_all
  obtain ⟨rfl, rfl⟩ := trodVars_none hV
  obtain ⟨cs0, rfl, hsz0⟩ := okWide_struct Try.underlying23 (hval 0 23 v0 rfl rfl)
  have k0 := h0
  have lt0 : ∀ x ∈ p0_, x.block < W.heap.size := by obtain ⟨m, hm⟩ := k0; exact DataW.trod_lt m _ _ _ hm
  obtain ⟨x0, w0⟩ := of_arg of_expo k0
  obtain ⟨cs1, rfl, hsz1⟩ := okWide_struct Try.underlying23 (hval 1 23 v1 rfl rfl)
  have k1 := h1
  have lt1 : ∀ x ∈ p1_, x.block < W.heap.size := by obtain ⟨m, hm⟩ := k1; exact DataW.trod_lt m _ _ _ hm
  obtain ⟨x1, w1⟩ := of_arg of_expo k1
  obtain ⟨cs2, rfl, hsz2⟩ := okWide_struct Try.underlying23 (hval 2 23 v2 rfl rfl)
  have k2 := h2
  have lt2 : ∀ x ∈ p2_, x.block < W.heap.size := by obtain ⟨m, hm⟩ := k2; exact DataW.trod_lt m _ _ _ hm
  obtain ⟨x2, w2⟩ := of_arg of_expo k2
  obtain ⟨a3, rfl, rfl, rfl, w3⟩ := open_int Try.underlying2 (hval 3 2 v3 rfl rfl) h3
  obtain ⟨a4, rfl, rfl, rfl, w4⟩ := open_int Try.underlying2 (hval 4 2 v4 rfl rfl) h4
  obtain ⟨a5, rfl, rfl, rfl, w5⟩ := open_int Try.underlying2 (hval 5 2 v5 rfl rfl) h5
  obtain ⟨p6, n6, c6, rfl⟩ := okWide_slice Try.underlying24 (hval 6 24 v6 rfl rfl)
  have k6 := h6
  have lt6 : ∀ x ∈ p6_, x.block < W.heap.size := by obtain ⟨m, hm⟩ := k6; exact DataW.trod_lt m _ _ _ hm
  obtain ⟨x6, w6⟩ := of_arg (of_slice (size := 4) of_cell Try.underlying24 (by kernel_rfl) (by decide)) k6
  clear hA0 hval0
  refine (walk cs0 x0 cs1 x1 cs2 x2 a3 a4 a5 p6 n6 c6 x6 W w0 w1 w2 w3 w4 w5 w6).mono fun e W' ⟨he, bel⟩ => ?_
  subst he
  exact ⟨_, rfl, _, _, _, [], _, [], hW', trodAll_mk1 (shut_bool Try.underlying4 _), (trodAll_cons_mk (Below.trod laidOut (by kernel_rfl) (of_decide_eq_true (by kernel_rfl)) k0 bel lt0) (trodAll_cons_mk (Below.trod laidOut (by kernel_rfl) (of_decide_eq_true (by kernel_rfl)) k1 bel lt1) (trodAll_cons_mk (Below.trod laidOut (by kernel_rfl) (of_decide_eq_true (by kernel_rfl)) k2 bel lt2) (trodAll_cons_mk (shut_int Try.underlying2 w3) (trodAll_cons_mk (shut_int Try.underlying2 w4) (trodAll_cons_mk (shut_int Try.underlying2 w5) (trodAll_cons_mk (Below.trod laidOut (by kernel_rfl) (of_decide_eq_true (by kernel_rfl)) k6 bel lt6) trodAll_mk0))))))), rfl, bel.frame _, fun h => by cases h⟩

theorem over : Rows.limitRightRow.holds Try.pinned (OpenSpec.ofChange Rows.limitRightSpec) :=
  OpenClaim.holds_of_wide 3 Try.f3 rfl rfl rfl rfl rfl rfl rfl ⟨rfl, rfl, rfl, rfl, rfl⟩ rfl rfl rfl rfl rfl (by kernel_rfl) Try.func3 (by kernel_rfl)
    (of_decide_eq_true (by kernel_rfl)) (by unfold Func.isWrapper; first | (rw [if_pos (by decide +kernel)]; kernel_rfl) | (rw [if_neg (by decide +kernel)]; exact ⟨rfl, rfl⟩))
    (fun os started H enc _ => lifted os started H enc)

theorem proved : Rows.LimitRightSaid := over
#print axioms proved
end Go.Proofs.Ytiebaiehoebhfaa.limitRight
