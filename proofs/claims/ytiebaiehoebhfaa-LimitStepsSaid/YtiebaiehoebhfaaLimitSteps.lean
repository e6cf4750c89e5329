/-
  PROVED: the law LimitSteps answers true at every input, and leaves what it was given as it was.
  CONDITIONS: none.
-/
import Derived.Test.YtiebaiehoebhfaaRows
import Derived.WalkKit
import Derived.ProofKit
import Derived.OpenShut
import Derived.ShutString
import Derived.ChangeOld
import Derived.Below
import Derived.Test.YtiebaiehoebhfaaRet
import Derived.Test.YtiebaiehoebhfaaCut
import Derived.Deep.RegionHeld
import Derived.Deep.DrawnRows
import Derived.Deep.DeepCutAuto
import Derived.Test.YtiebaiehoebhfaaAwake09
import Derived.Test.YtiebaiehoebhfaaCls
import Derived.Test.YtiebaiehoebhfaaCellEq
import Derived.Test.YtiebaiehoebhfaaRead
namespace Go.Proofs.Ytiebaiehoebhfaa.limitSteps
open Go.ChangeShapes Go.WideShapes Go.ChangeAt Go.RowKit
open Go.ChangeMaps (open_string shut_string)
open Go.Proofs.Ytiebaiehoebhfaa Go.Proofs.Ytiebaiehoebhfaa.cell Go.Proofs.Ytiebaiehoebhfaa.limit
open Go.Proofs.Ytiebaiehoebhfaa.order (eq_cases)
attribute [local go_sem] undef
attribute [local go_sem ↓] Go.wp_at_zero Go.wp_at_succ
set_option linter.unusedVariables false

theorem own : ownKnob Try.prog.godebug = none := by kernel_rfl
theorem laidOut : laidOutB Try.prog = true := by kernel_rfl

set_option maxHeartbeats 8000000 in
set_option maxRecDepth 100000 in
theorem walk (cs0 : Array Value) (x0 : ExpoD) (cs1 : Array Value) (x1 : ExpoD) (cs2 : Array Value) (x2 : ExpoD) (cs3 : Array Value) (x3 : ExpoD) (p4 : Option Addr) (n4 c4 : Nat) (x4 : List (CellD)) (a5 : Int) (w : World) (w0 : rdExpo w (Lt w.heap.size) cs0.toList x0) (w1 : rdExpo w (Lt w.heap.size) cs1.toList x1) (w2 : rdExpo w (Lt w.heap.size) cs2.toList x2) (w3 : rdExpo w (Lt w.heap.size) cs3.toList x3) (w4 : (rdSlice rdCell 4) w (Lt w.heap.size) [.slice p4 n4 c4] x4) (w5 : (Lit.int .u8 a5).wf = true) :
    Calls Try.prog 5 #[.agg cs0, .agg cs1, .agg cs2, .agg cs3, .slice p4 n4 c4, .int .u8 a5] w fun e w' => e = .returned (.bool true) ∧ Below w.heap.size w w' := by
  -- WALK BEGINS
  obtain ⟨hc0, hf0⟩ := w0
  obtain rfl : cs0 = cell.xc x0 := by apply Array.toList_inj.1; exact hc0
  clear hc0
  obtain ⟨al, as_, an⟩ := x0
  obtain ⟨hc1, hf1⟩ := w1
  obtain rfl : cs1 = cell.xc x1 := by apply Array.toList_inj.1; exact hc1
  clear hc1
  obtain ⟨bl, bs, bn⟩ := x1
  obtain ⟨hc2, hf2⟩ := w2
  obtain rfl : cs2 = cell.xc x2 := by apply Array.toList_inj.1; exact hc2
  clear hc2
  obtain ⟨cl, cs_, cn⟩ := x2
  obtain ⟨hc3, hf3⟩ := w3
  obtain rfl : cs3 = cell.xc x3 := by apply Array.toList_inj.1; exact hc3
  clear hc3
  obtain ⟨dl, ds, dn⟩ := x3
  show Calls Try.prog 5 #[.agg #[.int .i64 al, .int .i64 as_, .int .i64 an], .agg #[.int .i64 bl, .int .i64 bs, .int .i64 bn], .agg #[.int .i64 cl, .int .i64 cs_, .int .i64 cn], .agg #[.int .i64 dl, .int .i64 ds, .int .i64 dn], .slice p4 n4 c4, .int .u8 a5] w _
  obtain ⟨W0, HW0⟩ : ∃ W, Hid (((((w.alloc (.cells #[.int .i64 al, .int .i64 as_, .int .i64 an] 23)).alloc (.cells #[.int .i64 bl, .int .i64 bs, .int .i64 bn] 23)).alloc (.cells #[.int .i64 cl, .int .i64 cs_, .int .i64 cn] 23)).alloc (.cells #[.int .i64 dl, .int .i64 ds, .int .i64 dn] 23)) = W) := ⟨_, Lib.hid rfl⟩
  have HBw0 : Hid (Below w.heap.size w W0) := Lib.hid (by rw [← HW0.out]; exact ((((Below.refl _ _).alloc (by simp) _).alloc (by simp; try omega) _).alloc (by simp; try omega) _).alloc (by simp; try omega) _)
  have HX0_0 : Hid (∀ W, Below W0.heap.size W0 W → W.heap[w.heap.size]? = some (.cells #[.int .i64 al, .int .i64 as_, .int .i64 an] 23 (0, 0))) := Lib.hid (fun W hb => (hb.block _ (by rw [← HW0.out]; simp; try omega)).trans (by rw [← HW0.out]; refine (Below.heap_alloc _ _ _ (by simp; try omega)).trans ?_; refine (Below.heap_alloc _ _ _ (by simp; try omega)).trans ?_; refine (Below.heap_alloc _ _ _ (by simp; try omega)).trans ?_; have := heap_alloc_new w (.cells #[.int .i64 al, .int .i64 as_, .int .i64 an] 23); exact this))
  have HX1_0 : Hid (∀ W, Below W0.heap.size W0 W → W.heap[w.heap.size + 1]? = some (.cells #[.int .i64 bl, .int .i64 bs, .int .i64 bn] 23 (0, 0))) := Lib.hid (fun W hb => (hb.block _ (by rw [← HW0.out]; simp; try omega)).trans (by rw [← HW0.out]; refine (Below.heap_alloc _ _ _ (by simp; try omega)).trans ?_; refine (Below.heap_alloc _ _ _ (by simp; try omega)).trans ?_; have := heap_alloc_new (w.alloc (.cells #[.int .i64 al, .int .i64 as_, .int .i64 an] 23)) (.cells #[.int .i64 bl, .int .i64 bs, .int .i64 bn] 23); simp only [World.size_alloc] at this; exact this))
  have HX2_0 : Hid (∀ W, Below W0.heap.size W0 W → W.heap[w.heap.size + 1 + 1]? = some (.cells #[.int .i64 cl, .int .i64 cs_, .int .i64 cn] 23 (0, 0))) := Lib.hid (fun W hb => (hb.block _ (by rw [← HW0.out]; simp; try omega)).trans (by rw [← HW0.out]; refine (Below.heap_alloc _ _ _ (by simp; try omega)).trans ?_; have := heap_alloc_new ((w.alloc (.cells #[.int .i64 al, .int .i64 as_, .int .i64 an] 23)).alloc (.cells #[.int .i64 bl, .int .i64 bs, .int .i64 bn] 23)) (.cells #[.int .i64 cl, .int .i64 cs_, .int .i64 cn] 23); simp only [World.size_alloc] at this; exact this))
  have HX3_0 : Hid (∀ W, Below W0.heap.size W0 W → W.heap[w.heap.size + 1 + 1 + 1]? = some (.cells #[.int .i64 dl, .int .i64 ds, .int .i64 dn] 23 (0, 0))) := Lib.hid (fun W hb => (hb.block _ (by rw [← HW0.out]; simp; try omega)).trans (by rw [← HW0.out]; have := heap_alloc_new (((w.alloc (.cells #[.int .i64 al, .int .i64 as_, .int .i64 an] 23)).alloc (.cells #[.int .i64 bl, .int .i64 bs, .int .i64 bn] 23)).alloc (.cells #[.int .i64 cl, .int .i64 cs_, .int .i64 cn] 23)) (.cells #[.int .i64 dl, .int .i64 ds, .int .i64 dn] 23); simp only [World.size_alloc] at this; exact this))
  obtain ⟨A6, N6, C6, hsl, hcl, hln, hle, hmx⟩ := w4
  simp only [List.cons.injEq, Value.slice.injEq, and_true] at hsl
  obtain ⟨rfl, rfl, rfl⟩ := hsl
  have HCL : Hid (Cls w w.heap.size p4 x4) := Lib.hid hcl
  have HLN := Lib.hid hln
  clear hf0 hf1 hf2 hf3
  unfold maxLen at hmx
  have hu8 : 0 ≤ a5 ∧ a5 ≤ 255 := by simpa [Lit.wf, IntKind.min, IntKind.max, IntKind.signed, IntKind.bits] using w5
  clear w5
  obtain ⟨hu8a, hu8b⟩ := hu8
  obtain ⟨kk, hkk, hkl⟩ : ∃ kk : Nat, a5 % ((n4 : Int) + 1) = (kk : Int) ∧ kk ≤ n4 := by
    have q1 := Int.emod_nonneg a5 (show ((n4 : Int) + 1) ≠ 0 by omega)
    have q2 := Int.emod_lt_of_pos a5 (show 0 < ((n4 : Int) + 1) by omega)
    exact ⟨(a5 % ((n4 : Int) + 1)).toNat, by omega, by omega⟩
  have hinfo : Hid ((Try.prog.info? 39).map (fun i => (i.zero, i.size, i.bytes)) = some (some (.agg #[.int .i64 0, .int .i64 0, .int .i64 0, .int .i64 0]), 4, 32)) := Lib.hid (by kernel_rfl)
  have hs1 : ∀ W : World, (Instr.slice 24 (.slice p4 n4 c4) none (some (.int .i64 (kk : Int))) none).run Try.prog W = .ok (.slice p4 kk c4) W := fun W => run_cut_upto 24 39 4 32 _ Try.underlying24 hinfo.out p4 n4 c4 kk _ rfl (by omega) W
  obtain ⟨AD, hs2, HCD⟩ : ∃ AD, (∀ W : World, (Instr.slice 24 (.slice p4 n4 c4) (some (.int .i64 (kk : Int))) none none).run Try.prog W = .ok (.slice AD (n4 - kk) (c4 - kk)) W) ∧ Hid (Cls w w.heap.size AD (x4.drop kk)) := ⟨_, run_cut_from 24 39 4 32 _ Try.underlying24 hinfo.out p4 n4 c4 kk hkl, Lib.hid (Elems.cut hcl kk c4 (by omega))⟩
  have HCT : Hid (Cls w w.heap.size p4 (x4.take kk)) := Lib.hid (Cls.take hcl kk)
  have HLT : Hid ((x4.take kk).length = kk) := Lib.hid (by simp; omega)
  have HLD : Hid ((x4.drop kk).length = n4 - kk) := Lib.hid (by simp; omega)
  obtain ⟨s0, e0_, HW0_⟩ : ∃ x y, Hid (whole x4 = (x, y)) := ⟨_, _, Lib.hid rfl⟩
  obtain ⟨s1, e1_, HW1_⟩ : ∃ x y, Hid (whole (x4.take kk) = (x, y)) := ⟨_, _, Lib.hid rfl⟩
  obtain ⟨s2, e2_, HW2_⟩ : ∃ x y, Hid (whole (x4.drop kk) = (x, y)) := ⟨_, _, Lib.hid rfl⟩
  clear hcl hln
  go_enter Try.func5, Try.ntmps5
  go_upto_region 1 with fail
  rw [HW0.out]
  go_wp2_with fail
  refine Calls.mono (awake_any _) ?_
  rintro e1 W1 ⟨rfl, hb⟩
  have HBw1 : Hid (Below w.heap.size w W1) := Lib.hid (HBw0.out.trans ((hb : Below W0.heap.size W0 W1).mono HBw0.out.size))
  have HB0_1 : Hid (Below W0.heap.size W0 W1) := Lib.hid (hb)
  clear hb
  by_cases hlz1 : 100 < (n4 : Int)
  · have HLz1 := Lib.hid hlz1
    go_wp2_with fail
    go_ret
    exact ⟨rec.retB (by first | rfl | (simp; done) | (simp; omega)), HBw1.out⟩
  · have HLz1 := Lib.hid hlz1
    have hnz1 : (n4 : Int) ≤ 100 := by omega
    clear hlz1
    obtain ⟨cb2, HCb2⟩ : ∃ x, Hid (against ⟨al, as_, an⟩ ⟨bl, bs, bn⟩ ⟨dl, ds, dn⟩ = x) := ⟨_, Lib.hid rfl⟩
    rcases cb2 with _ | _
    · obtain ⟨k6_0, k6_1, k6_2⟩ := cells3 (HX0_0.out W1 HB0_1.out)
      obtain ⟨k7_0, k7_1, k7_2⟩ := cells3 (HX1_0.out W1 HB0_1.out)
      obtain ⟨k9_0, k9_1, k9_2⟩ := cells3 (HX3_0.out W1 HB0_1.out)
      go_wp2_with fail
      refine Calls.mono (limit.against_is al as_ an bl bs bn dl ds dn HCb2.out _) ?_
      rintro e2 W2 ⟨rfl, hb⟩
      have HBw2 : Hid (Below w.heap.size w W2) := Lib.hid (HBw1.out.trans ((hb : Below W1.heap.size W1 W2).mono HBw1.out.size))
      have HB0_2 : Hid (Below W0.heap.size W0 W2) := Lib.hid (HB0_1.out.trans ((hb : Below W1.heap.size W1 W2).mono HB0_1.out.size))
      have HB1_2 : Hid (Below W1.heap.size W1 W2) := Lib.hid (hb)
      clear hb
      obtain ⟨cb3, HCb3⟩ : ∃ x, Hid (against ⟨bl, bs, bn⟩ ⟨cl, cs_, cn⟩ ⟨dl, ds, dn⟩ = x) := ⟨_, Lib.hid rfl⟩
      rcases cb3 with _ | _
      · clear k6_0 k6_1 k6_2 k7_0 k7_1 k7_2 k9_0 k9_1 k9_2
        obtain ⟨k7_0, k7_1, k7_2⟩ := cells3 (HX1_0.out W2 HB0_2.out)
        obtain ⟨k8_0, k8_1, k8_2⟩ := cells3 (HX2_0.out W2 HB0_2.out)
        obtain ⟨k9_0, k9_1, k9_2⟩ := cells3 (HX3_0.out W2 HB0_2.out)
        go_wp2_with fail
        refine Calls.mono (limit.against_is bl bs bn cl cs_ cn dl ds dn HCb3.out _) ?_
        rintro e3 W3 ⟨rfl, hb⟩
        have HBw3 : Hid (Below w.heap.size w W3) := Lib.hid (HBw2.out.trans ((hb : Below W2.heap.size W2 W3).mono HBw2.out.size))
        have HB0_3 : Hid (Below W0.heap.size W0 W3) := Lib.hid (HB0_2.out.trans ((hb : Below W2.heap.size W2 W3).mono HB0_2.out.size))
        have HB1_3 : Hid (Below W1.heap.size W1 W3) := Lib.hid (HB1_2.out.trans ((hb : Below W2.heap.size W2 W3).mono HB1_2.out.size))
        have HB2_3 : Hid (Below W2.heap.size W2 W3) := Lib.hid (hb)
        clear hb
        have HTt4 : Hid (against ⟨al, as_, an⟩ ⟨cl, cs_, cn⟩ ⟨dl, ds, dn⟩ = false) := Lib.hid (two HCb2.out HCb3.out)
        clear k7_0 k7_1 k7_2 k8_0 k8_1 k8_2 k9_0 k9_1 k9_2
        obtain ⟨k6_0, k6_1, k6_2⟩ := cells3 (HX0_0.out W3 HB0_3.out)
        obtain ⟨k8_0, k8_1, k8_2⟩ := cells3 (HX2_0.out W3 HB0_3.out)
        obtain ⟨k9_0, k9_1, k9_2⟩ := cells3 (HX3_0.out W3 HB0_3.out)
        go_wp2_with fail
        refine Calls.mono (limit.against_is al as_ an cl cs_ cn dl ds dn HTt4.out _) ?_
        rintro e4 W4 ⟨rfl, hb⟩
        have HBw4 : Hid (Below w.heap.size w W4) := Lib.hid (HBw3.out.trans ((hb : Below W3.heap.size W3 W4).mono HBw3.out.size))
        have HB0_4 : Hid (Below W0.heap.size W0 W4) := Lib.hid (HB0_3.out.trans ((hb : Below W3.heap.size W3 W4).mono HB0_3.out.size))
        have HB1_4 : Hid (Below W1.heap.size W1 W4) := Lib.hid (HB1_3.out.trans ((hb : Below W3.heap.size W3 W4).mono HB1_3.out.size))
        have HB2_4 : Hid (Below W2.heap.size W2 W4) := Lib.hid (HB2_3.out.trans ((hb : Below W3.heap.size W3 W4).mono HB2_3.out.size))
        have HB3_4 : Hid (Below W3.heap.size W3 W4) := Lib.hid (hb)
        clear hb
        clear k6_0 k6_1 k6_2 k8_0 k8_1 k8_2 k9_0 k9_1 k9_2
        go_wp2_with fail
        refine Calls.mono (whole_is p4 n4 c4 _ x4 _ (HCL.out.below HBw4.out) HBw4.out.size HLN.out (by omega) HW0_.out) ?_
        rintro e5 W5 ⟨rfl, hb⟩
        have HBw5 : Hid (Below w.heap.size w W5) := Lib.hid (HBw4.out.trans ((hb : Below W4.heap.size W4 W5).mono HBw4.out.size))
        have HB0_5 : Hid (Below W0.heap.size W0 W5) := Lib.hid (HB0_4.out.trans ((hb : Below W4.heap.size W4 W5).mono HB0_4.out.size))
        have HB1_5 : Hid (Below W1.heap.size W1 W5) := Lib.hid (HB1_4.out.trans ((hb : Below W4.heap.size W4 W5).mono HB1_4.out.size))
        have HB2_5 : Hid (Below W2.heap.size W2 W5) := Lib.hid (HB2_4.out.trans ((hb : Below W4.heap.size W4 W5).mono HB2_4.out.size))
        have HB3_5 : Hid (Below W3.heap.size W3 W5) := Lib.hid (HB3_4.out.trans ((hb : Below W4.heap.size W4 W5).mono HB3_4.out.size))
        have HB4_5 : Hid (Below W4.heap.size W4 W5) := Lib.hid (hb)
        clear hb
        go_wp2_with fail
        refine Calls.mono (whole_is p4 kk c4 _ (x4.take kk) _ (HCT.out.below HBw5.out) HBw5.out.size HLT.out (by omega) HW1_.out) ?_
        rintro e6 W6 ⟨rfl, hb⟩
        have HBw6 : Hid (Below w.heap.size w W6) := Lib.hid (HBw5.out.trans ((hb : Below W5.heap.size W5 W6).mono HBw5.out.size))
        have HB0_6 : Hid (Below W0.heap.size W0 W6) := Lib.hid (HB0_5.out.trans ((hb : Below W5.heap.size W5 W6).mono HB0_5.out.size))
        have HB1_6 : Hid (Below W1.heap.size W1 W6) := Lib.hid (HB1_5.out.trans ((hb : Below W5.heap.size W5 W6).mono HB1_5.out.size))
        have HB2_6 : Hid (Below W2.heap.size W2 W6) := Lib.hid (HB2_5.out.trans ((hb : Below W5.heap.size W5 W6).mono HB2_5.out.size))
        have HB3_6 : Hid (Below W3.heap.size W3 W6) := Lib.hid (HB3_5.out.trans ((hb : Below W5.heap.size W5 W6).mono HB3_5.out.size))
        have HB4_6 : Hid (Below W4.heap.size W4 W6) := Lib.hid (HB4_5.out.trans ((hb : Below W5.heap.size W5 W6).mono HB4_5.out.size))
        have HB5_6 : Hid (Below W5.heap.size W5 W6) := Lib.hid (hb)
        clear hb
        go_wp2_with fail
        refine Calls.mono (whole_is AD (n4 - kk) (c4 - kk) _ (x4.drop kk) _ (HCD.out.below HBw6.out) HBw6.out.size HLD.out (by omega) HW2_.out) ?_
        rintro e7 W7 ⟨rfl, hb⟩
        have HBw7 : Hid (Below w.heap.size w W7) := Lib.hid (HBw6.out.trans ((hb : Below W6.heap.size W6 W7).mono HBw6.out.size))
        have HB0_7 : Hid (Below W0.heap.size W0 W7) := Lib.hid (HB0_6.out.trans ((hb : Below W6.heap.size W6 W7).mono HB0_6.out.size))
        have HB1_7 : Hid (Below W1.heap.size W1 W7) := Lib.hid (HB1_6.out.trans ((hb : Below W6.heap.size W6 W7).mono HB1_6.out.size))
        have HB2_7 : Hid (Below W2.heap.size W2 W7) := Lib.hid (HB2_6.out.trans ((hb : Below W6.heap.size W6 W7).mono HB2_6.out.size))
        have HB3_7 : Hid (Below W3.heap.size W3 W7) := Lib.hid (HB3_6.out.trans ((hb : Below W6.heap.size W6 W7).mono HB3_6.out.size))
        have HB4_7 : Hid (Below W4.heap.size W4 W7) := Lib.hid (HB4_6.out.trans ((hb : Below W6.heap.size W6 W7).mono HB4_6.out.size))
        have HB5_7 : Hid (Below W5.heap.size W5 W7) := Lib.hid (HB5_6.out.trans ((hb : Below W6.heap.size W6 W7).mono HB5_6.out.size))
        have HB6_7 : Hid (Below W6.heap.size W6 W7) := Lib.hid (hb)
        clear hb
        rcases eq_cases e0_ 0 with ⟨HEz5, hez5, hfz5⟩ | ⟨HEz5, hez5, hfz5⟩
        · obtain rfl : e0_ = 0 := HEz5.out
          rcases eq_cases e1_ 0 with ⟨HEz6, hez6, hfz6⟩ | ⟨HEz6, hez6, hfz6⟩
          · obtain rfl : e1_ = 0 := HEz6.out
            rcases eq_cases e2_ 0 with ⟨HEz7, hez7, hfz7⟩ | ⟨HEz7, hez7, hfz7⟩
            · obtain rfl : e2_ = 0 := HEz7.out
              have hwr : IntKind.i64.wrap (s0 - s1) = s2 := by
                have hdf := whole_parts HW0_.out HW1_.out HW2_.out
                have h := whole_in HW2_.out
                unfold inI at h
                rw [IntWalk.i64_in _ (by omega)]
                exact hdf
              go_wp2_with fail
              go_ret
              exact ⟨rec.retB (by first | rfl | (simp; done) | (simp; omega)), HBw7.out⟩
            · rcases eq_cases s0 0 with ⟨HEz8, hez8, hfz8⟩ | ⟨HEz8, hez8, hfz8⟩
              · obtain rfl : s0 = 0 := HEz8.out
                go_wp2_with fail
                go_ret
                exact ⟨rec.retB (by first | rfl | (simp; done) | (simp; omega)), HBw7.out⟩
              · go_wp2_with fail
                go_ret
                exact ⟨rec.retB (by first | rfl | (simp; done) | (simp; omega)), HBw7.out⟩
          · rcases eq_cases s0 0 with ⟨HEz9, hez9, hfz9⟩ | ⟨HEz9, hez9, hfz9⟩
            · obtain rfl : s0 = 0 := HEz9.out
              go_wp2_with fail
              go_ret
              exact ⟨rec.retB (by first | rfl | (simp; done) | (simp; omega)), HBw7.out⟩
            · go_wp2_with fail
              go_ret
              exact ⟨rec.retB (by first | rfl | (simp; done) | (simp; omega)), HBw7.out⟩
        · have hk10 : s0 = 0 := ((whole_err HW0_.out).resolve_left HEz5.out).1
          have hk10b : (s0 == 0) = true := by simpa using hk10
          have hk10c : (s0 != 0) = false := by simpa using hk10
          clear hk10
          go_wp2_with fail
          go_ret
          exact ⟨rec.retB (by first | rfl | (simp; done) | (simp; omega)), HBw7.out⟩
      · clear k6_0 k6_1 k6_2 k7_0 k7_1 k7_2 k9_0 k9_1 k9_2
        obtain ⟨k7_0, k7_1, k7_2⟩ := cells3 (HX1_0.out W2 HB0_2.out)
        obtain ⟨k8_0, k8_1, k8_2⟩ := cells3 (HX2_0.out W2 HB0_2.out)
        obtain ⟨k9_0, k9_1, k9_2⟩ := cells3 (HX3_0.out W2 HB0_2.out)
        go_wp2_with fail
        refine Calls.mono (limit.against_is bl bs bn cl cs_ cn dl ds dn HCb3.out _) ?_
        rintro e3 W3 ⟨rfl, hb⟩
        have HBw3 : Hid (Below w.heap.size w W3) := Lib.hid (HBw2.out.trans ((hb : Below W2.heap.size W2 W3).mono HBw2.out.size))
        have HB0_3 : Hid (Below W0.heap.size W0 W3) := Lib.hid (HB0_2.out.trans ((hb : Below W2.heap.size W2 W3).mono HB0_2.out.size))
        have HB1_3 : Hid (Below W1.heap.size W1 W3) := Lib.hid (HB1_2.out.trans ((hb : Below W2.heap.size W2 W3).mono HB1_2.out.size))
        have HB2_3 : Hid (Below W2.heap.size W2 W3) := Lib.hid (hb)
        clear hb
        clear k7_0 k7_1 k7_2 k8_0 k8_1 k8_2 k9_0 k9_1 k9_2
        go_wp2_with fail
        refine Calls.mono (whole_is p4 n4 c4 _ x4 _ (HCL.out.below HBw3.out) HBw3.out.size HLN.out (by omega) HW0_.out) ?_
        rintro e4 W4 ⟨rfl, hb⟩
        have HBw4 : Hid (Below w.heap.size w W4) := Lib.hid (HBw3.out.trans ((hb : Below W3.heap.size W3 W4).mono HBw3.out.size))
        have HB0_4 : Hid (Below W0.heap.size W0 W4) := Lib.hid (HB0_3.out.trans ((hb : Below W3.heap.size W3 W4).mono HB0_3.out.size))
        have HB1_4 : Hid (Below W1.heap.size W1 W4) := Lib.hid (HB1_3.out.trans ((hb : Below W3.heap.size W3 W4).mono HB1_3.out.size))
        have HB2_4 : Hid (Below W2.heap.size W2 W4) := Lib.hid (HB2_3.out.trans ((hb : Below W3.heap.size W3 W4).mono HB2_3.out.size))
        have HB3_4 : Hid (Below W3.heap.size W3 W4) := Lib.hid (hb)
        clear hb
        go_wp2_with fail
        refine Calls.mono (whole_is p4 kk c4 _ (x4.take kk) _ (HCT.out.below HBw4.out) HBw4.out.size HLT.out (by omega) HW1_.out) ?_
        rintro e5 W5 ⟨rfl, hb⟩
        have HBw5 : Hid (Below w.heap.size w W5) := Lib.hid (HBw4.out.trans ((hb : Below W4.heap.size W4 W5).mono HBw4.out.size))
        have HB0_5 : Hid (Below W0.heap.size W0 W5) := Lib.hid (HB0_4.out.trans ((hb : Below W4.heap.size W4 W5).mono HB0_4.out.size))
        have HB1_5 : Hid (Below W1.heap.size W1 W5) := Lib.hid (HB1_4.out.trans ((hb : Below W4.heap.size W4 W5).mono HB1_4.out.size))
        have HB2_5 : Hid (Below W2.heap.size W2 W5) := Lib.hid (HB2_4.out.trans ((hb : Below W4.heap.size W4 W5).mono HB2_4.out.size))
        have HB3_5 : Hid (Below W3.heap.size W3 W5) := Lib.hid (HB3_4.out.trans ((hb : Below W4.heap.size W4 W5).mono HB3_4.out.size))
        have HB4_5 : Hid (Below W4.heap.size W4 W5) := Lib.hid (hb)
        clear hb
        go_wp2_with fail
        refine Calls.mono (whole_is AD (n4 - kk) (c4 - kk) _ (x4.drop kk) _ (HCD.out.below HBw5.out) HBw5.out.size HLD.out (by omega) HW2_.out) ?_
        rintro e6 W6 ⟨rfl, hb⟩
        have HBw6 : Hid (Below w.heap.size w W6) := Lib.hid (HBw5.out.trans ((hb : Below W5.heap.size W5 W6).mono HBw5.out.size))
        have HB0_6 : Hid (Below W0.heap.size W0 W6) := Lib.hid (HB0_5.out.trans ((hb : Below W5.heap.size W5 W6).mono HB0_5.out.size))
        have HB1_6 : Hid (Below W1.heap.size W1 W6) := Lib.hid (HB1_5.out.trans ((hb : Below W5.heap.size W5 W6).mono HB1_5.out.size))
        have HB2_6 : Hid (Below W2.heap.size W2 W6) := Lib.hid (HB2_5.out.trans ((hb : Below W5.heap.size W5 W6).mono HB2_5.out.size))
        have HB3_6 : Hid (Below W3.heap.size W3 W6) := Lib.hid (HB3_5.out.trans ((hb : Below W5.heap.size W5 W6).mono HB3_5.out.size))
        have HB4_6 : Hid (Below W4.heap.size W4 W6) := Lib.hid (HB4_5.out.trans ((hb : Below W5.heap.size W5 W6).mono HB4_5.out.size))
        have HB5_6 : Hid (Below W5.heap.size W5 W6) := Lib.hid (hb)
        clear hb
        rcases eq_cases e0_ 0 with ⟨HEz11, hez11, hfz11⟩ | ⟨HEz11, hez11, hfz11⟩
        · obtain rfl : e0_ = 0 := HEz11.out
          rcases eq_cases e1_ 0 with ⟨HEz12, hez12, hfz12⟩ | ⟨HEz12, hez12, hfz12⟩
          · obtain rfl : e1_ = 0 := HEz12.out
            rcases eq_cases e2_ 0 with ⟨HEz13, hez13, hfz13⟩ | ⟨HEz13, hez13, hfz13⟩
            · obtain rfl : e2_ = 0 := HEz13.out
              have hwr : IntKind.i64.wrap (s0 - s1) = s2 := by
                have hdf := whole_parts HW0_.out HW1_.out HW2_.out
                have h := whole_in HW2_.out
                unfold inI at h
                rw [IntWalk.i64_in _ (by omega)]
                exact hdf
              go_wp2_with fail
              go_ret
              exact ⟨rec.retB (by first | rfl | (simp; done) | (simp; omega)), HBw6.out⟩
            · rcases eq_cases s0 0 with ⟨HEz14, hez14, hfz14⟩ | ⟨HEz14, hez14, hfz14⟩
              · obtain rfl : s0 = 0 := HEz14.out
                go_wp2_with fail
                go_ret
                exact ⟨rec.retB (by first | rfl | (simp; done) | (simp; omega)), HBw6.out⟩
              · go_wp2_with fail
                go_ret
                exact ⟨rec.retB (by first | rfl | (simp; done) | (simp; omega)), HBw6.out⟩
          · rcases eq_cases s0 0 with ⟨HEz15, hez15, hfz15⟩ | ⟨HEz15, hez15, hfz15⟩
            · obtain rfl : s0 = 0 := HEz15.out
              go_wp2_with fail
              go_ret
              exact ⟨rec.retB (by first | rfl | (simp; done) | (simp; omega)), HBw6.out⟩
            · go_wp2_with fail
              go_ret
              exact ⟨rec.retB (by first | rfl | (simp; done) | (simp; omega)), HBw6.out⟩
        · have hk16 : s0 = 0 := ((whole_err HW0_.out).resolve_left HEz11.out).1
          have hk16b : (s0 == 0) = true := by simpa using hk16
          have hk16c : (s0 != 0) = false := by simpa using hk16
          clear hk16
          go_wp2_with fail
          go_ret
          exact ⟨rec.retB (by first | rfl | (simp; done) | (simp; omega)), HBw6.out⟩
    · obtain ⟨k6_0, k6_1, k6_2⟩ := cells3 (HX0_0.out W1 HB0_1.out)
      obtain ⟨k7_0, k7_1, k7_2⟩ := cells3 (HX1_0.out W1 HB0_1.out)
      obtain ⟨k9_0, k9_1, k9_2⟩ := cells3 (HX3_0.out W1 HB0_1.out)
      go_wp2_with fail
      refine Calls.mono (limit.against_is al as_ an bl bs bn dl ds dn HCb2.out _) ?_
      rintro e2 W2 ⟨rfl, hb⟩
      have HBw2 : Hid (Below w.heap.size w W2) := Lib.hid (HBw1.out.trans ((hb : Below W1.heap.size W1 W2).mono HBw1.out.size))
      have HB0_2 : Hid (Below W0.heap.size W0 W2) := Lib.hid (HB0_1.out.trans ((hb : Below W1.heap.size W1 W2).mono HB0_1.out.size))
      have HB1_2 : Hid (Below W1.heap.size W1 W2) := Lib.hid (hb)
      clear hb
      clear k6_0 k6_1 k6_2 k7_0 k7_1 k7_2 k9_0 k9_1 k9_2
      go_wp2_with fail
      refine Calls.mono (whole_is p4 n4 c4 _ x4 _ (HCL.out.below HBw2.out) HBw2.out.size HLN.out (by omega) HW0_.out) ?_
      rintro e3 W3 ⟨rfl, hb⟩
      have HBw3 : Hid (Below w.heap.size w W3) := Lib.hid (HBw2.out.trans ((hb : Below W2.heap.size W2 W3).mono HBw2.out.size))
      have HB0_3 : Hid (Below W0.heap.size W0 W3) := Lib.hid (HB0_2.out.trans ((hb : Below W2.heap.size W2 W3).mono HB0_2.out.size))
      have HB1_3 : Hid (Below W1.heap.size W1 W3) := Lib.hid (HB1_2.out.trans ((hb : Below W2.heap.size W2 W3).mono HB1_2.out.size))
      have HB2_3 : Hid (Below W2.heap.size W2 W3) := Lib.hid (hb)
      clear hb
      go_wp2_with fail
      refine Calls.mono (whole_is p4 kk c4 _ (x4.take kk) _ (HCT.out.below HBw3.out) HBw3.out.size HLT.out (by omega) HW1_.out) ?_
      rintro e4 W4 ⟨rfl, hb⟩
      have HBw4 : Hid (Below w.heap.size w W4) := Lib.hid (HBw3.out.trans ((hb : Below W3.heap.size W3 W4).mono HBw3.out.size))
      have HB0_4 : Hid (Below W0.heap.size W0 W4) := Lib.hid (HB0_3.out.trans ((hb : Below W3.heap.size W3 W4).mono HB0_3.out.size))
      have HB1_4 : Hid (Below W1.heap.size W1 W4) := Lib.hid (HB1_3.out.trans ((hb : Below W3.heap.size W3 W4).mono HB1_3.out.size))
      have HB2_4 : Hid (Below W2.heap.size W2 W4) := Lib.hid (HB2_3.out.trans ((hb : Below W3.heap.size W3 W4).mono HB2_3.out.size))
      have HB3_4 : Hid (Below W3.heap.size W3 W4) := Lib.hid (hb)
      clear hb
      go_wp2_with fail
      refine Calls.mono (whole_is AD (n4 - kk) (c4 - kk) _ (x4.drop kk) _ (HCD.out.below HBw4.out) HBw4.out.size HLD.out (by omega) HW2_.out) ?_
      rintro e5 W5 ⟨rfl, hb⟩
      have HBw5 : Hid (Below w.heap.size w W5) := Lib.hid (HBw4.out.trans ((hb : Below W4.heap.size W4 W5).mono HBw4.out.size))
      have HB0_5 : Hid (Below W0.heap.size W0 W5) := Lib.hid (HB0_4.out.trans ((hb : Below W4.heap.size W4 W5).mono HB0_4.out.size))
      have HB1_5 : Hid (Below W1.heap.size W1 W5) := Lib.hid (HB1_4.out.trans ((hb : Below W4.heap.size W4 W5).mono HB1_4.out.size))
      have HB2_5 : Hid (Below W2.heap.size W2 W5) := Lib.hid (HB2_4.out.trans ((hb : Below W4.heap.size W4 W5).mono HB2_4.out.size))
      have HB3_5 : Hid (Below W3.heap.size W3 W5) := Lib.hid (HB3_4.out.trans ((hb : Below W4.heap.size W4 W5).mono HB3_4.out.size))
      have HB4_5 : Hid (Below W4.heap.size W4 W5) := Lib.hid (hb)
      clear hb
      rcases eq_cases e0_ 0 with ⟨HEz17, hez17, hfz17⟩ | ⟨HEz17, hez17, hfz17⟩
      · obtain rfl : e0_ = 0 := HEz17.out
        rcases eq_cases e1_ 0 with ⟨HEz18, hez18, hfz18⟩ | ⟨HEz18, hez18, hfz18⟩
        · obtain rfl : e1_ = 0 := HEz18.out
          rcases eq_cases e2_ 0 with ⟨HEz19, hez19, hfz19⟩ | ⟨HEz19, hez19, hfz19⟩
          · obtain rfl : e2_ = 0 := HEz19.out
            have hwr : IntKind.i64.wrap (s0 - s1) = s2 := by
              have hdf := whole_parts HW0_.out HW1_.out HW2_.out
              have h := whole_in HW2_.out
              unfold inI at h
              rw [IntWalk.i64_in _ (by omega)]
              exact hdf
            go_wp2_with fail
            go_ret
            exact ⟨rec.retB (by first | rfl | (simp; done) | (simp; omega)), HBw5.out⟩
          · rcases eq_cases s0 0 with ⟨HEz20, hez20, hfz20⟩ | ⟨HEz20, hez20, hfz20⟩
            · obtain rfl : s0 = 0 := HEz20.out
              go_wp2_with fail
              go_ret
              exact ⟨rec.retB (by first | rfl | (simp; done) | (simp; omega)), HBw5.out⟩
            · go_wp2_with fail
              go_ret
              exact ⟨rec.retB (by first | rfl | (simp; done) | (simp; omega)), HBw5.out⟩
        · rcases eq_cases s0 0 with ⟨HEz21, hez21, hfz21⟩ | ⟨HEz21, hez21, hfz21⟩
          · obtain rfl : s0 = 0 := HEz21.out
            go_wp2_with fail
            go_ret
            exact ⟨rec.retB (by first | rfl | (simp; done) | (simp; omega)), HBw5.out⟩
          · go_wp2_with fail
            go_ret
            exact ⟨rec.retB (by first | rfl | (simp; done) | (simp; omega)), HBw5.out⟩
      · have hk22 : s0 = 0 := ((whole_err HW0_.out).resolve_left HEz17.out).1
        have hk22b : (s0 == 0) = true := by simpa using hk22
        have hk22c : (s0 != 0) = false := by simpa using hk22
        clear hk22
        go_wp2_with fail
        go_ret
        exact ⟨rec.retB (by first | rfl | (simp; done) | (simp; omega)), HBw5.out⟩
  -- WALK ENDS

set_option maxRecDepth 100000 in
theorem lifted (os : Os) (started : os.Started) (H : Type) (enc : TypeId × Value → H) :
    ReturnsInHanded {} Try.checked os 5 .any (Rows.limitStepsSpec.pre6 enc Try.prog Try.f5 Rows.limitStepsRow.domain false) (Rows.limitStepsSpec.post enc Try.prog Try.f5 false true false false) := by
  refine returnsInHanded_of_change (C := Try.checked) own started (by kernel_rfl) Try.func5
    (ChangeSpec.witness6 (enc := enc) (C := Try.checked) false ⟨#[], #[.agg #[.int .i64 0, .int .i64 0, .int .i64 0], .agg #[.int .i64 0, .int .i64 0, .int .i64 0], .agg #[.int .i64 0, .int .i64 0, .int .i64 0], .agg #[.int .i64 0, .int .i64 0, .int .i64 0], .slice none 0 0, .int .u8 0], []⟩ 8 (by kernel_rfl) (by kernel_rfl) (by kernel_rfl) (by kernel_rfl)) ?_
  intro W base args ds gs before hval0 hW hcnd _
  have hval : ∀ (j : Nat) t v, Try.f5.params[j]? = some t → args[j]? = some v → Value.okWide Try.prog W .any base t v := hval0
  have hW' := hW
  obtain ⟨p, q, hA0, hV, rfl, hfz, hnd⟩ := hW
  have hA : DataW.TrodAll enc Try.prog W 0 (fun _ => true) true Try.f5.params.toList args.toList ds p := hA0
  rw [Try.params5] at hA hval
  obtain ⟨v0, vs0, d0, ds0, p0_, q0, hargs, rfl, rfl, h0, r0⟩ := trodAll_cons hA
  obtain ⟨v1, vs1, d1, ds1, p1_, q1, rfl, rfl, rfl, h1, r1⟩ := trodAll_cons r0
  obtain ⟨v2, vs2, d2, ds2, p2_, q2, rfl, rfl, rfl, h2, r2⟩ := trodAll_cons r1
  obtain ⟨v3, vs3, d3, ds3, p3_, q3, rfl, rfl, rfl, h3, r3⟩ := trodAll_cons r2
  obtain ⟨v4, vs4, d4, ds4, p4_, q4, rfl, rfl, rfl, h4, r4⟩ := trodAll_cons r3
  obtain ⟨v5, vs5, d5, ds5, p5_, q5, rfl, rfl, rfl, h5, r5⟩ := trodAll_cons r4
  obtain ⟨rfl, rfl, rfl⟩ := trodAll_nil r5
  obtain rfl : args = #[v0, v1, v2, v3, v4, v5] := by cases args; simp_all
  obtain ⟨rfl, rfl⟩ := trodVars_none hV
  obtain ⟨cs0, rfl, hsz0⟩ := okWide_struct Try.underlying23 (hval 0 23 v0 rfl rfl)
  have k0 := h0
  have lt0 : ∀ x ∈ p0_, x.block < W.heap.size := by obtain ⟨m, hm⟩ := k0; exact DataW.trod_lt m _ _ _ hm
  obtain ⟨x0, w0⟩ := of_arg of_expo k0
  obtain ⟨cs1, rfl, hsz1⟩ := okWide_struct Try.underlying23 (hval 1 23 v1 rfl rfl)
  have k1 := h1
  have lt1 : ∀ x ∈ p1_, x.block < W.heap.size := by obtain ⟨m, hm⟩ := k1; exact DataW.trod_lt m _ _ _ hm
  obtain ⟨x1, w1⟩ := of_arg of_expo k1
  obtain ⟨cs2, rfl, hsz2⟩ := okWide_struct Try.underlying23 (hval 2 23 v2 rfl rfl)
  have k2 := h2
  have lt2 : ∀ x ∈ p2_, x.block < W.heap.size := by obtain ⟨m, hm⟩ := k2; exact DataW.trod_lt m _ _ _ hm
  obtain ⟨x2, w2⟩ := of_arg of_expo k2
  obtain ⟨cs3, rfl, hsz3⟩ := okWide_struct Try.underlying23 (hval 3 23 v3 rfl rfl)
  have k3 := h3
  have lt3 : ∀ x ∈ p3_, x.block < W.heap.size := by obtain ⟨m, hm⟩ := k3; exact DataW.trod_lt m _ _ _ hm
  obtain ⟨x3, w3⟩ := of_arg of_expo k3
  obtain ⟨p4, n4, c4, rfl⟩ := okWide_slice Try.underlying24 (hval 4 24 v4 rfl rfl)
  have k4 := h4
  have lt4 : ∀ x ∈ p4_, x.block < W.heap.size := by obtain ⟨m, hm⟩ := k4; exact DataW.trod_lt m _ _ _ hm
  obtain ⟨x4, w4⟩ := of_arg (of_slice (size := 4) of_cell Try.underlying24 (by kernel_rfl) (by decide)) k4
  obtain ⟨a5, rfl, rfl, rfl, w5⟩ := open_int Try.underlying5 (hval 5 5 v5 rfl rfl) h5
  clear hA0 hval0
  refine (walk cs0 x0 cs1 x1 cs2 x2 cs3 x3 p4 n4 c4 x4 a5 W w0 w1 w2 w3 w4 w5).mono fun e W' ⟨he, bel⟩ => ?_
  subst he
  exact ⟨_, rfl, _, _, _, [], _, [], hW', trodAll_mk1 (shut_bool Try.underlying4 _), (trodAll_cons_mk (Below.trod laidOut (by kernel_rfl) (of_decide_eq_true (by kernel_rfl)) k0 bel lt0) (trodAll_cons_mk (Below.trod laidOut (by kernel_rfl) (of_decide_eq_true (by kernel_rfl)) k1 bel lt1) (trodAll_cons_mk (Below.trod laidOut (by kernel_rfl) (of_decide_eq_true (by kernel_rfl)) k2 bel lt2) (trodAll_cons_mk (Below.trod laidOut (by kernel_rfl) (of_decide_eq_true (by kernel_rfl)) k3 bel lt3) (trodAll_cons_mk (Below.trod laidOut (by kernel_rfl) (of_decide_eq_true (by kernel_rfl)) k4 bel lt4) (trodAll_cons_mk (shut_int Try.underlying5 w5) trodAll_mk0)))))), rfl, bel.frame _, fun h => by cases h⟩

theorem over : Rows.limitStepsRow.holds Try.pinned (OpenSpec.ofChange Rows.limitStepsSpec) :=
  OpenClaim.holds_of_wide 5 Try.f5 rfl rfl rfl rfl rfl rfl rfl ⟨rfl, rfl, rfl, rfl, rfl⟩ rfl rfl rfl rfl rfl (by kernel_rfl) Try.func5 (by kernel_rfl)
    (of_decide_eq_true (by kernel_rfl)) (by unfold Func.isWrapper; first | (rw [if_pos (by decide +kernel)]; kernel_rfl) | (rw [if_neg (by decide +kernel)]; exact ⟨rfl, rfl⟩))
    (fun os started H enc _ => lifted os started H enc)

theorem proved : Rows.LimitStepsSaid := over
#print axioms proved
end Go.Proofs.Ytiebaiehoebhfaa.limitSteps
