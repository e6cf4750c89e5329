/-
  PROVED: the law FrameRight answers true at every input, and leaves what it was given as it was.
  CONDITIONS: none.
-/
import Derived.Test.YtnfdoiaidkkkeaaRows
import Derived.WalkKit
import Derived.ProofKit
import Derived.OpenShut
import Derived.ShutString
import Derived.ChangeOld
import Derived.Below
import Derived.Test.YtnfdoiaidkkkeaaApi04
import Derived.Test.YtnfdoiaidkkkeaaFrameImpl4
import Derived.Test.YtnfdoiaidkkkeaaFrameRef3
import Derived.Deep.RegionHeld3
import Derived.Deep.DeepCutAuto
import Derived.Deep.DrawnRows
import Derived.BigRegion
namespace Go.Proofs.Ytnfdoiaidkkkeaa.frameRight
open Go.ChangeShapes Go.WideShapes Go.ChangeAt Go.RowKit
open Go.ChangeMaps (open_string shut_string)
set_option linter.unusedVariables false

attribute [local go_sem] undef
attribute [local go_sem ↓] Go.wp_at_zero Go.wp_at_succ

theorem own : ownKnob Try.prog.godebug = none := by kernel_rfl
theorem laidOut : laidOutB Try.prog = true := by kernel_rfl

set_option maxHeartbeats 8000000 in
set_option maxRecDepth 100000 in
theorem walk (cs0 : Array Value) (x0 : FrameD) (p1 : Option Addr) (n1 c1 : Nat) (x1 : List Nat) (w : World) (w0 : rdFrame w (Lt w.heap.size) cs0.toList x0) (w1 : rdBytes w (Lt w.heap.size) [.slice p1 n1 c1] x1) :
    Calls Try.prog 3 #[.agg cs0, .slice p1 n1 c1] w fun e w' => e = .returned (.bool true) ∧ Below w.heap.size w w' := by
  obtain ⟨w0, g0⟩ := w0
  obtain ⟨A, m, cp, hA, hin, hlen, hcap, hmax⟩ := w1
  simp only [List.cons.injEq, Value.slice.injEq, and_true] at hA
  obtain ⟨rfl, rfl, rfl⟩ := hA
  have hx : Bys w w.heap.size p1 x1 := BysIn.bys hin (fun b h => h)
  have hlt := hx.lt
  obtain rfl : cs0 = frame.fc x0 := by apply Array.toList_inj.1; exact w0
  clear w0 hin
  obtain ⟨e0, l0, k0, b00, b10, b20, b30, b40, b50⟩ := x0
  obtain ⟨f0, HF0⟩ : ∃ f, Hid ((⟨e0, l0, k0, b00, b10, b20, b30, b40, b50⟩ : frame.Fr) = f) := ⟨_, Lib.hid rfl⟩
  show Calls Try.prog 3 #[.agg #[.int .i64 e0, .int .i64 l0, .int .i64 k0, .int .i64 b00, .int .i64 b10, .int .i64 b20, .int .i64 b30, .int .i64 b40, .int .i64 b50], .slice p1 n1 c1] w _
  have G0 : Hid f0.fine := Lib.hid (by rw [← HF0.out]; exact g0)
  have HN := Lib.hid hlen
  have hmax' : c1 ≤ 9223372036854775807 := by unfold maxLen at hmax; omega
  clear g0 hlen hmax
  obtain ⟨W0, HW0⟩ : ∃ W, Hid (w.alloc (.cells #[.int .i64 e0, .int .i64 l0, .int .i64 k0, .int .i64 b00, .int .i64 b10, .int .i64 b20, .int .i64 b30, .int .i64 b40, .int .i64 b50] 24) = W) := ⟨_, Lib.hid rfl⟩
  have hbW : Below w.heap.size w W0 := by rw [← HW0.out]; exact (Below.refl _ _).alloc (Nat.le_refl _) _
  have hsz : w.heap.size + 1 = W0.heap.size := by rw [← HW0.out]; simp
  have HK0 : Hid (∀ W, Below W0.heap.size W0 W → W.heap[w.heap.size]? = some (.cells #[.int .i64 e0, .int .i64 l0, .int .i64 k0, .int .i64 b00, .int .i64 b10, .int .i64 b20, .int .i64 b30, .int .i64 b40, .int .i64 b50] 24 (0, 0))) := Lib.hid (fun W hb => (hb.block _ (by omega)).trans (by rw [← HW0.out]; exact heap_alloc_new w _))
  have HBW := Lib.hid hbW
  have HSZ := Lib.hid hsz
  have HX : Hid (∀ W, Below W0.heap.size W0 W → Bys W w.heap.size p1 x1) := Lib.hid (fun W hb => hx.below (hbW.trans (hb.mono (by omega))))
  clear hbW hsz hx
  by_cases h200 : 200 < n1
  · go_enter Try.func3, Try.ntmps3
    go_wp2_with ((with_reducible refine (frame.awake_any _).mono ?_); rintro e w' ⟨rfl, hg0⟩; have hg : Below W0.heap.size W0 w' := (by rw [HW0.out] at hg0; exact hg0); clear hg0)
    go_ret
    exact ⟨rfl, HBW.out.trans (hg.mono (by rw [← HSZ.out]; omega))⟩
  have hn200 : ¬ 200 < n1 := h200
  clear h200
  obtain ⟨d, h, HD⟩ : ∃ d h, Hid (frame.dec x1 = (d, h)) := ⟨_, _, Lib.hid rfl⟩
  obtain ⟨e2, l2, k2, b02, b12, b22, b32, b42, b52⟩ := h
  have G2 : Hid (⟨e2, l2, k2, b02, b12, b22, b32, b42, b52⟩ : frame.Fr).fine := Lib.hid (by have := frame.dec_fine hlt; rw [HD.out] at this; exact this)
  have heq : ∀ W, (Op.equalIn 10000 24 (.agg #[.int .i64 e2, .int .i64 l2, .int .i64 k2, .int .i64 b02, .int .i64 b12, .int .i64 b22, .int .i64 b32, .int .i64 b42, .int .i64 b52]) (.agg #[.int .i64 e2, .int .i64 l2, .int .i64 k2, .int .i64 b02, .int .i64 b12, .int .i64 b22, .int .i64 b32, .int .i64 b42, .int .i64 b52])).run Try.prog W = .ok true W := fun W => frame.eq_of rfl rfl G2.out G2.out (decide_eq_true rfl) W
  have HDEC : Hid (∀ W, Below W0.heap.size W0 W → Calls Try.prog 11 #[.slice p1 n1 c1] W fun e' w' => e' = .returned (.tuple #[.agg #[.int .i64 e2, .int .i64 l2, .int .i64 k2, .int .i64 b02, .int .i64 b12, .int .i64 b22, .int .i64 b32, .int .i64 b42, .int .i64 b52], .int .i64 d]) ∧ Below W.heap.size W w') := Lib.hid (fun W hb => frame.decode_of W (HX.out W hb) (by have := hb.size; have := HSZ.out; omega) HN.out hcap hmax' HD.out)
  have HRDC : Hid (∀ W, Below W0.heap.size W0 W → Calls Try.prog 12 #[.slice p1 n1 c1] W fun e' w' => e' = .returned (.tuple #[.agg #[.int .i64 e2, .int .i64 l2, .int .i64 k2, .int .i64 b02, .int .i64 b12, .int .i64 b22, .int .i64 b32, .int .i64 b42, .int .i64 b52], .int .i64 d]) ∧ Below W.heap.size W w') := Lib.hid (fun W hb => frame.rdecode_of W (HX.out W hb) (by have := hb.size; have := HSZ.out; omega) HN.out hcap hmax' HD.out)
  clear hlt
  obtain ⟨r0, HR0⟩ : ∃ r, Hid (frame.right f0 = r) := ⟨_, Lib.hid rfl⟩
  go_enter Try.func3, Try.ntmps3
  go_wp2_with fail
  refine (frame.awake_any _).mono ?_
  rintro e w1 ⟨rfl, hg0⟩
  have hg1 : Below W0.heap.size W0 w1 := by rw [HW0.out] at hg0; exact hg0
  clear hg0
  have hf1 := HK0.out w1 hg1
  have ka0 : w1.cell? ⟨w.heap.size, 0, none⟩ = some (.int .i64 e0) := (block_cell hf1 0 _ rfl).1
  have ka1 : w1.cell? ⟨w.heap.size, 1, none⟩ = some (.int .i64 l0) := (block_cell hf1 1 _ rfl).1
  have ka2 : w1.cell? ⟨w.heap.size, 2, none⟩ = some (.int .i64 k0) := (block_cell hf1 2 _ rfl).1
  have ka3 : w1.cell? ⟨w.heap.size, 3, none⟩ = some (.int .i64 b00) := (block_cell hf1 3 _ rfl).1
  have ka4 : w1.cell? ⟨w.heap.size, 4, none⟩ = some (.int .i64 b10) := (block_cell hf1 4 _ rfl).1
  have ka5 : w1.cell? ⟨w.heap.size, 5, none⟩ = some (.int .i64 b20) := (block_cell hf1 5 _ rfl).1
  have ka6 : w1.cell? ⟨w.heap.size, 6, none⟩ = some (.int .i64 b30) := (block_cell hf1 6 _ rfl).1
  have ka7 : w1.cell? ⟨w.heap.size, 7, none⟩ = some (.int .i64 b40) := (block_cell hf1 7 _ rfl).1
  have ka8 : w1.cell? ⟨w.heap.size, 8, none⟩ = some (.int .i64 b50) := (block_cell hf1 8 _ rfl).1
  clear hf1
  go_wp2_with fail
  refine Calls.mono (frame.rright_of HF0.out HR0.out w1) ?_
  rintro e w2 ⟨rfl, hb2⟩
  have hg2 : Below W0.heap.size W0 w2 := hg1.trans (hb2.mono hg1.size)
  have hf2 := HK0.out w2 hg2
  have kb0 : w2.cell? ⟨w.heap.size, 0, none⟩ = some (.int .i64 e0) := (block_cell hf2 0 _ rfl).1
  have kb1 : w2.cell? ⟨w.heap.size, 1, none⟩ = some (.int .i64 l0) := (block_cell hf2 1 _ rfl).1
  have kb2 : w2.cell? ⟨w.heap.size, 2, none⟩ = some (.int .i64 k0) := (block_cell hf2 2 _ rfl).1
  have kb3 : w2.cell? ⟨w.heap.size, 3, none⟩ = some (.int .i64 b00) := (block_cell hf2 3 _ rfl).1
  have kb4 : w2.cell? ⟨w.heap.size, 4, none⟩ = some (.int .i64 b10) := (block_cell hf2 4 _ rfl).1
  have kb5 : w2.cell? ⟨w.heap.size, 5, none⟩ = some (.int .i64 b20) := (block_cell hf2 5 _ rfl).1
  have kb6 : w2.cell? ⟨w.heap.size, 6, none⟩ = some (.int .i64 b30) := (block_cell hf2 6 _ rfl).1
  have kb7 : w2.cell? ⟨w.heap.size, 7, none⟩ = some (.int .i64 b40) := (block_cell hf2 7 _ rfl).1
  have kb8 : w2.cell? ⟨w.heap.size, 8, none⟩ = some (.int .i64 b50) := (block_cell hf2 8 _ rfl).1
  clear hf2 hb2 hg1
  rcases r0 with _ | _
  · go_wp2_with fail
    refine Calls.mono (frame.encode_no_of HF0.out HR0.out w2) ?_
    rintro e w3 ⟨rfl, hb3⟩
    have hg3 : Below W0.heap.size W0 w3 := hg2.trans (hb3.mono hg2.size)
    have hf3 := HK0.out w3 hg3
    have kc0 : w3.cell? ⟨w.heap.size, 0, none⟩ = some (.int .i64 e0) := (block_cell hf3 0 _ rfl).1
    have kc1 : w3.cell? ⟨w.heap.size, 1, none⟩ = some (.int .i64 l0) := (block_cell hf3 1 _ rfl).1
    have kc2 : w3.cell? ⟨w.heap.size, 2, none⟩ = some (.int .i64 k0) := (block_cell hf3 2 _ rfl).1
    have kc3 : w3.cell? ⟨w.heap.size, 3, none⟩ = some (.int .i64 b00) := (block_cell hf3 3 _ rfl).1
    have kc4 : w3.cell? ⟨w.heap.size, 4, none⟩ = some (.int .i64 b10) := (block_cell hf3 4 _ rfl).1
    have kc5 : w3.cell? ⟨w.heap.size, 5, none⟩ = some (.int .i64 b20) := (block_cell hf3 5 _ rfl).1
    have kc6 : w3.cell? ⟨w.heap.size, 6, none⟩ = some (.int .i64 b30) := (block_cell hf3 6 _ rfl).1
    have kc7 : w3.cell? ⟨w.heap.size, 7, none⟩ = some (.int .i64 b40) := (block_cell hf3 7 _ rfl).1
    have kc8 : w3.cell? ⟨w.heap.size, 8, none⟩ = some (.int .i64 b50) := (block_cell hf3 8 _ rfl).1
    clear hf3 hb3
    have HG3 := Lib.hid hg3
    have HRI : Hid (∀ W, Calls Try.prog 9 #[.agg #[.int .i64 e0, .int .i64 l0, .int .i64 k0, .int .i64 b00, .int .i64 b10, .int .i64 b20, .int .i64 b30, .int .i64 b40, .int .i64 b50]] W fun e w' => e = .returned (.bool false) ∧ Below W.heap.size W w') := Lib.hid (fun W => frame.right_of HF0.out HR0.out W)
    clear ka0 kb0 ka1 kb1 ka2 kb2 ka3 kb3 ka4 kb4 ka5 kb5 ka6 kb6 ka7 kb7 ka8 kb8 hg2 hg3
    go_wp2_with fail
    go_upto_region 7 with fail
    go_cut [55] (fun s wx => s = .bool false ∧ Below W0.heap.size W0 wx)
    case first =>
      refine wp_region_any (by kernel_rfl) ?_
      change wpAny _ _ _ _ _ _ _ (World.drew _)
      refine wpAny_take (i := 2) (v := .bool false) rfl (by kernel_rfl) (by kernel_rfl) (by kernel_rfl) (fun _ _ _ h => h) (Or.inl ⟨by kernel_rfl, ?h2⟩) ?_
      case h2 => (intro w; go_simp)
      go_simp
      refine wpAny_ready (rs := [0]) (by kernel_rfl) (by simp) ?_
      refine AllReady.cons rfl (fun K hK => ?_) AllReady.nil
      go_simp
      refine hK _ _ ?_
      clear hK K
      refine wpAny_ready (rs := [1]) (by kernel_rfl) (by simp) ?_
      refine AllReady.cons rfl (fun K hK => ?_) AllReady.nil
      go_simp
      go_wp2_with (go_at_call 9; refine Calls.mono (HRI.out _) ?_; rintro e w4 ⟨rfl, hb4⟩; have hg4 : Below W0.heap.size W0 w4 := HG3.out.drew.trans (hb4.mono HG3.out.size); have hf4 := HK0.out w4 hg4; have kd0 : w4.cell? ⟨w.heap.size, 0, none⟩ = some (.int .i64 e0) := (block_cell hf4 0 _ rfl).1; have kd1 : w4.cell? ⟨w.heap.size, 1, none⟩ = some (.int .i64 l0) := (block_cell hf4 1 _ rfl).1; have kd2 : w4.cell? ⟨w.heap.size, 2, none⟩ = some (.int .i64 k0) := (block_cell hf4 2 _ rfl).1; have kd3 : w4.cell? ⟨w.heap.size, 3, none⟩ = some (.int .i64 b00) := (block_cell hf4 3 _ rfl).1; have kd4 : w4.cell? ⟨w.heap.size, 4, none⟩ = some (.int .i64 b10) := (block_cell hf4 4 _ rfl).1; have kd5 : w4.cell? ⟨w.heap.size, 5, none⟩ = some (.int .i64 b20) := (block_cell hf4 5 _ rfl).1; have kd6 : w4.cell? ⟨w.heap.size, 6, none⟩ = some (.int .i64 b30) := (block_cell hf4 6 _ rfl).1; have kd7 : w4.cell? ⟨w.heap.size, 7, none⟩ = some (.int .i64 b40) := (block_cell hf4 7 _ rfl).1; have kd8 : w4.cell? ⟨w.heap.size, 8, none⟩ = some (.int .i64 b50) := (block_cell hf4 8 _ rfl).1; clear hb4 hf4)
      refine wpAny_take (i := 3) (v := .bool false) rfl (by kernel_rfl) (by kernel_rfl) (by kernel_rfl) (fun _ _ _ h => h) (Or.inl ⟨by kernel_rfl, ?h3⟩) ?_
      case h3 => (intro w; go_simp)
      go_simp
      refine wpAny_take (i := 4) (v := .bool false) rfl (by kernel_rfl) (by kernel_rfl) (by kernel_rfl) (fun _ _ _ h => h) (Or.inl ⟨by kernel_rfl, ?h4⟩) ?_
      case h4 => (intro w; go_simp)
      go_simp
      refine wpAny_take (i := 5) (v := .bool false) rfl (by kernel_rfl) (by kernel_rfl) (by kernel_rfl) (fun _ _ _ h => h) (Or.inl ⟨by kernel_rfl, ?h5⟩) ?_
      case h5 => (intro w; go_simp)
      go_simp
      refine wpAny_take (i := 6) (v := .bool false) rfl (by kernel_rfl) (by kernel_rfl) (by kernel_rfl) (fun _ _ _ h => h) (Or.inl ⟨by kernel_rfl, ?h6⟩) ?_
      case h6 => (intro w; go_simp)
      go_simp
      refine wpAny_take (i := 7) (v := undef) rfl (by kernel_rfl) (by kernel_rfl) (by kernel_rfl) (fun _ _ _ h => h) (Or.inr ⟨by kernel_rfl, rfl⟩) ?_
      go_simp
      refine wpAny_take (i := 8) (v := undef) rfl (by kernel_rfl) (by kernel_rfl) (by kernel_rfl) (fun _ _ _ h => h) (Or.inr ⟨by kernel_rfl, rfl⟩) ?_
      go_simp
      refine wpAny_take (i := 9) (v := undef) rfl (by kernel_rfl) (by kernel_rfl) (by kernel_rfl) (fun _ _ _ h => h) (Or.inr ⟨by kernel_rfl, rfl⟩) ?_
      go_simp
      refine wpAny_take (i := 10) (v := undef) rfl (by kernel_rfl) (by kernel_rfl) (by kernel_rfl) (fun _ _ _ h => h) (Or.inr ⟨by kernel_rfl, rfl⟩) ?_
      go_simp
      refine wpAny_take (i := 11) (v := undef) rfl (by kernel_rfl) (by kernel_rfl) (by kernel_rfl) (fun _ _ _ h => h) (Or.inr ⟨by kernel_rfl, rfl⟩) ?_
      go_simp
      refine wpAny_take (i := 12) (v := undef) rfl (by kernel_rfl) (by kernel_rfl) (by kernel_rfl) (fun _ _ _ h => h) (Or.inr ⟨by kernel_rfl, rfl⟩) ?_
      go_simp
      refine wpAny_take (i := 13) (v := undef) rfl (by kernel_rfl) (by kernel_rfl) (by kernel_rfl) (fun _ _ _ h => h) (Or.inr ⟨by kernel_rfl, rfl⟩) ?_
      go_simp
      refine wpAny_take (i := 14) (v := undef) rfl (by kernel_rfl) (by kernel_rfl) (by kernel_rfl) (fun _ _ _ h => h) (Or.inr ⟨by kernel_rfl, rfl⟩) ?_
      go_simp
      refine wpAny_take (i := 15) (v := undef) rfl (by kernel_rfl) (by kernel_rfl) (by kernel_rfl) (fun _ _ _ h => h) (Or.inr ⟨by kernel_rfl, rfl⟩) ?_
      go_simp
      refine wpAny_take (i := 16) (v := undef) rfl (by kernel_rfl) (by kernel_rfl) (by kernel_rfl) (fun _ _ _ h => h) (Or.inr ⟨by kernel_rfl, rfl⟩) ?_
      go_simp
      refine wpAny_take (i := 17) (v := .bool false) rfl (by kernel_rfl) (by kernel_rfl) (by kernel_rfl) (fun _ _ _ h => h) (Or.inl ⟨by kernel_rfl, ?h17⟩) ?_
      case h17 => (intro w; go_simp)
      go_simp
      refine wpAny_take (i := 18) (v := .bool false) rfl (by kernel_rfl) (by kernel_rfl) (by kernel_rfl) (fun _ _ _ h => h) (Or.inl ⟨by kernel_rfl, ?h18⟩) ?_
      case h18 => (intro w; go_simp)
      go_simp
      refine wpAny_take (i := 19) (v := .bool false) rfl (by kernel_rfl) (by kernel_rfl) (by kernel_rfl) (fun _ _ _ h => h) (Or.inl ⟨by kernel_rfl, ?h19⟩) ?_
      case h19 => (intro w; go_simp)
      go_simp
      refine wpAny_take (i := 20) (v := .bool false) rfl (by kernel_rfl) (by kernel_rfl) (by kernel_rfl) (fun _ _ _ h => h) (Or.inl ⟨by kernel_rfl, ?h20⟩) ?_
      case h20 => (intro w; go_simp)
      go_simp
      refine wpAny_take (i := 21) (v := .bool true) rfl (by kernel_rfl) (by kernel_rfl) (by kernel_rfl) (fun _ _ _ h => h) (Or.inl ⟨by kernel_rfl, ?h21⟩) ?_
      case h21 => (intro w; go_simp)
      go_simp
      refine wpAny_take (i := 22) (v := .bool true) rfl (by kernel_rfl) (by kernel_rfl) (by kernel_rfl) (fun _ _ _ h => h) (Or.inl ⟨by kernel_rfl, ?h22⟩) ?_
      case h22 => (intro w; go_simp)
      go_simp
      refine wpAny_take (i := 23) (v := .int .i64 1) rfl (by kernel_rfl) (by kernel_rfl) (by kernel_rfl) (fun _ _ _ h => h) (Or.inl ⟨by kernel_rfl, ?h23⟩) ?_
      case h23 => (intro w; go_simp)
      go_simp
      refine wpAny_take (i := 24) (v := .bool false) rfl (by kernel_rfl) (by kernel_rfl) (by kernel_rfl) (fun _ _ _ h => h) (Or.inl ⟨by kernel_rfl, ?h24⟩) ?_
      case h24 => (intro w; go_simp)
      go_simp
      refine wpAny_take (i := 25) (v := .bool false) rfl (by kernel_rfl) (by kernel_rfl) (by kernel_rfl) (fun _ _ _ h => h) (Or.inl ⟨by kernel_rfl, ?h25⟩) ?_
      case h25 => (intro w; go_simp)
      go_simp
      refine wpAny_take (i := 26) (v := .slice none 0 0) rfl (by kernel_rfl) (by kernel_rfl) (by kernel_rfl) (fun _ _ _ h => h) (Or.inl ⟨by kernel_rfl, ?h26⟩) ?_
      case h26 => (intro w; go_simp)
      go_simp
      refine wpAny_take (i := 27) (v := .int .i64 0) rfl (by kernel_rfl) (by kernel_rfl) (by kernel_rfl) (fun _ _ _ h => h) (Or.inl ⟨by kernel_rfl, ?h27⟩) ?_
      case h27 => (intro w; go_simp)
      go_simp
      refine wpAny_take (i := 28) (v := .bool false) rfl (by kernel_rfl) (by kernel_rfl) (by kernel_rfl) (fun _ _ _ h => h) (Or.inl ⟨by kernel_rfl, ?h28⟩) ?_
      case h28 => (intro w; go_simp)
      go_simp
      refine wpAny_take (i := 29) (v := .bool false) rfl (by kernel_rfl) (by kernel_rfl) (by kernel_rfl) (fun _ _ _ h => h) (Or.inl ⟨by kernel_rfl, ?h29⟩) ?_
      case h29 => (intro w; go_simp)
      go_simp
      refine wpAny_take (i := 30) (v := .bool false) rfl (by kernel_rfl) (by kernel_rfl) (by kernel_rfl) (fun _ _ _ h => h) (Or.inl ⟨by kernel_rfl, ?h30⟩) ?_
      case h30 => (intro w; go_simp)
      go_simp
      refine wpAny_take (i := 31) (v := .bool false) rfl (by kernel_rfl) (by kernel_rfl) (by kernel_rfl) (fun _ _ _ h => h) (Or.inl ⟨by kernel_rfl, ?h31⟩) ?_
      case h31 => (intro w; go_simp)
      go_simp
      refine wpAny_done (by kernel_rfl) ?_ _
      go_wp2_with fail
      go_meet
      exact ⟨rfl, hg4⟩
    case rest =>
      obtain ⟨rfl, hgc⟩ := hcut
      go_wp2_with fail
      refine Calls.mono (HDEC.out wc hgc) ?_
      rintro e w5 ⟨rfl, hb5⟩
      have hg5 : Below W0.heap.size W0 w5 := hgc.trans (hb5.mono hgc.size)
      have hg6 : Below W0.heap.size W0 (w5.alloc (.cells #[.int .i64 e2, .int .i64 l2, .int .i64 k2, .int .i64 b02, .int .i64 b12, .int .i64 b22, .int .i64 b32, .int .i64 b42, .int .i64 b52] 24)) := hg5.alloc hg5.size _
      clear hb5 hgc
      go_wp2_with fail
      refine Calls.mono (HRDC.out _ hg6) ?_
      rintro e w6 ⟨rfl, hb6⟩
      have hg7 : Below W0.heap.size W0 w6 := hg6.trans (hb6.mono hg6.size)
      have hx8 : w6.heap[w5.heap.size]? = some (.cells #[.int .i64 e2, .int .i64 l2, .int .i64 k2, .int .i64 b02, .int .i64 b12, .int .i64 b22, .int .i64 b32, .int .i64 b42, .int .i64 b52] 24 (0, 0)) := frame.box_cells hb6 (by simp) (heap_alloc_new w5 _)
      have hl8 : w5.heap.size < w6.heap.size := cell_block (block_cell hx8 0 (.int .i64 e2) rfl).1
      have hy8 : (w6.alloc (.cells #[.int .i64 e2, .int .i64 l2, .int .i64 k2, .int .i64 b02, .int .i64 b12, .int .i64 b22, .int .i64 b32, .int .i64 b42, .int .i64 b52] 24)).heap[w5.heap.size]? = some (.cells #[.int .i64 e2, .int .i64 l2, .int .i64 k2, .int .i64 b02, .int .i64 b12, .int .i64 b22, .int .i64 b32, .int .i64 b42, .int .i64 b52] 24 (0, 0)) := (Below.heap_alloc _ _ _ hl8).trans hx8
      have hz8 := heap_alloc_new w6 (.cells #[.int .i64 e2, .int .i64 l2, .int .i64 k2, .int .i64 b02, .int .i64 b12, .int .i64 b22, .int .i64 b32, .int .i64 b42, .int .i64 b52] 24)
      have ke0 : (w6.alloc (.cells #[.int .i64 e2, .int .i64 l2, .int .i64 k2, .int .i64 b02, .int .i64 b12, .int .i64 b22, .int .i64 b32, .int .i64 b42, .int .i64 b52] 24)).cell? ⟨w5.heap.size, 0, none⟩ = some (.int .i64 e2) := (block_cell hy8 0 _ rfl).1
      have ke1 : (w6.alloc (.cells #[.int .i64 e2, .int .i64 l2, .int .i64 k2, .int .i64 b02, .int .i64 b12, .int .i64 b22, .int .i64 b32, .int .i64 b42, .int .i64 b52] 24)).cell? ⟨w5.heap.size, 1, none⟩ = some (.int .i64 l2) := (block_cell hy8 1 _ rfl).1
      have ke2 : (w6.alloc (.cells #[.int .i64 e2, .int .i64 l2, .int .i64 k2, .int .i64 b02, .int .i64 b12, .int .i64 b22, .int .i64 b32, .int .i64 b42, .int .i64 b52] 24)).cell? ⟨w5.heap.size, 2, none⟩ = some (.int .i64 k2) := (block_cell hy8 2 _ rfl).1
      have ke3 : (w6.alloc (.cells #[.int .i64 e2, .int .i64 l2, .int .i64 k2, .int .i64 b02, .int .i64 b12, .int .i64 b22, .int .i64 b32, .int .i64 b42, .int .i64 b52] 24)).cell? ⟨w5.heap.size, 3, none⟩ = some (.int .i64 b02) := (block_cell hy8 3 _ rfl).1
      have ke4 : (w6.alloc (.cells #[.int .i64 e2, .int .i64 l2, .int .i64 k2, .int .i64 b02, .int .i64 b12, .int .i64 b22, .int .i64 b32, .int .i64 b42, .int .i64 b52] 24)).cell? ⟨w5.heap.size, 4, none⟩ = some (.int .i64 b12) := (block_cell hy8 4 _ rfl).1
      have ke5 : (w6.alloc (.cells #[.int .i64 e2, .int .i64 l2, .int .i64 k2, .int .i64 b02, .int .i64 b12, .int .i64 b22, .int .i64 b32, .int .i64 b42, .int .i64 b52] 24)).cell? ⟨w5.heap.size, 5, none⟩ = some (.int .i64 b22) := (block_cell hy8 5 _ rfl).1
      have ke6 : (w6.alloc (.cells #[.int .i64 e2, .int .i64 l2, .int .i64 k2, .int .i64 b02, .int .i64 b12, .int .i64 b22, .int .i64 b32, .int .i64 b42, .int .i64 b52] 24)).cell? ⟨w5.heap.size, 6, none⟩ = some (.int .i64 b32) := (block_cell hy8 6 _ rfl).1
      have ke7 : (w6.alloc (.cells #[.int .i64 e2, .int .i64 l2, .int .i64 k2, .int .i64 b02, .int .i64 b12, .int .i64 b22, .int .i64 b32, .int .i64 b42, .int .i64 b52] 24)).cell? ⟨w5.heap.size, 7, none⟩ = some (.int .i64 b42) := (block_cell hy8 7 _ rfl).1
      have ke8 : (w6.alloc (.cells #[.int .i64 e2, .int .i64 l2, .int .i64 k2, .int .i64 b02, .int .i64 b12, .int .i64 b22, .int .i64 b32, .int .i64 b42, .int .i64 b52] 24)).cell? ⟨w5.heap.size, 8, none⟩ = some (.int .i64 b52) := (block_cell hy8 8 _ rfl).1
      have kf0 : (w6.alloc (.cells #[.int .i64 e2, .int .i64 l2, .int .i64 k2, .int .i64 b02, .int .i64 b12, .int .i64 b22, .int .i64 b32, .int .i64 b42, .int .i64 b52] 24)).cell? ⟨w6.heap.size, 0, none⟩ = some (.int .i64 e2) := (block_cell hz8 0 _ rfl).1
      have kf1 : (w6.alloc (.cells #[.int .i64 e2, .int .i64 l2, .int .i64 k2, .int .i64 b02, .int .i64 b12, .int .i64 b22, .int .i64 b32, .int .i64 b42, .int .i64 b52] 24)).cell? ⟨w6.heap.size, 1, none⟩ = some (.int .i64 l2) := (block_cell hz8 1 _ rfl).1
      have kf2 : (w6.alloc (.cells #[.int .i64 e2, .int .i64 l2, .int .i64 k2, .int .i64 b02, .int .i64 b12, .int .i64 b22, .int .i64 b32, .int .i64 b42, .int .i64 b52] 24)).cell? ⟨w6.heap.size, 2, none⟩ = some (.int .i64 k2) := (block_cell hz8 2 _ rfl).1
      have kf3 : (w6.alloc (.cells #[.int .i64 e2, .int .i64 l2, .int .i64 k2, .int .i64 b02, .int .i64 b12, .int .i64 b22, .int .i64 b32, .int .i64 b42, .int .i64 b52] 24)).cell? ⟨w6.heap.size, 3, none⟩ = some (.int .i64 b02) := (block_cell hz8 3 _ rfl).1
      have kf4 : (w6.alloc (.cells #[.int .i64 e2, .int .i64 l2, .int .i64 k2, .int .i64 b02, .int .i64 b12, .int .i64 b22, .int .i64 b32, .int .i64 b42, .int .i64 b52] 24)).cell? ⟨w6.heap.size, 4, none⟩ = some (.int .i64 b12) := (block_cell hz8 4 _ rfl).1
      have kf5 : (w6.alloc (.cells #[.int .i64 e2, .int .i64 l2, .int .i64 k2, .int .i64 b02, .int .i64 b12, .int .i64 b22, .int .i64 b32, .int .i64 b42, .int .i64 b52] 24)).cell? ⟨w6.heap.size, 5, none⟩ = some (.int .i64 b22) := (block_cell hz8 5 _ rfl).1
      have kf6 : (w6.alloc (.cells #[.int .i64 e2, .int .i64 l2, .int .i64 k2, .int .i64 b02, .int .i64 b12, .int .i64 b22, .int .i64 b32, .int .i64 b42, .int .i64 b52] 24)).cell? ⟨w6.heap.size, 6, none⟩ = some (.int .i64 b32) := (block_cell hz8 6 _ rfl).1
      have kf7 : (w6.alloc (.cells #[.int .i64 e2, .int .i64 l2, .int .i64 k2, .int .i64 b02, .int .i64 b12, .int .i64 b22, .int .i64 b32, .int .i64 b42, .int .i64 b52] 24)).cell? ⟨w6.heap.size, 7, none⟩ = some (.int .i64 b42) := (block_cell hz8 7 _ rfl).1
      have kf8 : (w6.alloc (.cells #[.int .i64 e2, .int .i64 l2, .int .i64 k2, .int .i64 b02, .int .i64 b12, .int .i64 b22, .int .i64 b32, .int .i64 b42, .int .i64 b52] 24)).cell? ⟨w6.heap.size, 8, none⟩ = some (.int .i64 b52) := (block_cell hz8 8 _ rfl).1
      clear hx8 hy8 hz8 hb6
      go_wp2
      go_ret
      exact ⟨rfl, HBW.out.trans ((hg7.alloc hg7.size _).mono (by have := HSZ.out; omega))⟩
  · go_wp2_with fail
    refine Calls.mono (frame.encode_yes_of HF0.out G0.out HR0.out w2) ?_
    rintro e w3 ⟨g3, rfl, hown3, hb3⟩
    have hg3 : Below W0.heap.size W0 w3 := hg2.trans (hb3.mono hg2.size)
    have hf3 := HK0.out w3 hg3
    have kc0 : w3.cell? ⟨w.heap.size, 0, none⟩ = some (.int .i64 e0) := (block_cell hf3 0 _ rfl).1
    have kc1 : w3.cell? ⟨w.heap.size, 1, none⟩ = some (.int .i64 l0) := (block_cell hf3 1 _ rfl).1
    have kc2 : w3.cell? ⟨w.heap.size, 2, none⟩ = some (.int .i64 k0) := (block_cell hf3 2 _ rfl).1
    have kc3 : w3.cell? ⟨w.heap.size, 3, none⟩ = some (.int .i64 b00) := (block_cell hf3 3 _ rfl).1
    have kc4 : w3.cell? ⟨w.heap.size, 4, none⟩ = some (.int .i64 b10) := (block_cell hf3 4 _ rfl).1
    have kc5 : w3.cell? ⟨w.heap.size, 5, none⟩ = some (.int .i64 b20) := (block_cell hf3 5 _ rfl).1
    have kc6 : w3.cell? ⟨w.heap.size, 6, none⟩ = some (.int .i64 b30) := (block_cell hf3 6 _ rfl).1
    have kc7 : w3.cell? ⟨w.heap.size, 7, none⟩ = some (.int .i64 b40) := (block_cell hf3 7 _ rfl).1
    have kc8 : w3.cell? ⟨w.heap.size, 8, none⟩ = some (.int .i64 b50) := (block_cell hf3 8 _ rfl).1
    have HO3 := Lib.hid hown3.bys
    clear hf3 hb3 hown3
    have HG3 := Lib.hid hg3
    obtain ⟨s, HST⟩ : ∃ s, Hid (strB (frame.enc f0) = s) := ⟨_, Lib.hid rfl⟩
    have HRI : Hid (∀ W, Calls Try.prog 9 #[.agg #[.int .i64 e0, .int .i64 l0, .int .i64 k0, .int .i64 b00, .int .i64 b10, .int .i64 b20, .int .i64 b30, .int .i64 b40, .int .i64 b50]] W fun e w' => e = .returned (.bool true) ∧ Below W.heap.size W w') := Lib.hid (fun W => frame.right_of HF0.out HR0.out W)
    have HRE : Hid (∀ W, Calls Try.prog 10 #[.agg #[.int .i64 e0, .int .i64 l0, .int .i64 k0, .int .i64 b00, .int .i64 b10, .int .i64 b20, .int .i64 b30, .int .i64 b40, .int .i64 b50]] W (frame.Made (frame.enc f0) 72 W)) := Lib.hid (fun W => frame.rencode_of HF0.out W)
    clear ka0 kb0 ka1 kb1 ka2 kb2 ka3 kb3 ka4 kb4 ka5 kb5 ka6 kb6 ka7 kb7 ka8 kb8 hg2 hg3
    go_wp2_with fail
    go_upto_region 7 with fail
    go_cut [55] (fun s wx => s = .bool false ∧ Below W0.heap.size W0 wx)
    case first =>
      refine wp_region_any (by kernel_rfl) ?_
      change wpAny _ _ _ _ _ _ _ (World.drew _)
      refine wpAny_take (i := 2) (v := .bool true) rfl (by kernel_rfl) (by kernel_rfl) (by kernel_rfl) (fun _ _ _ h => h) (Or.inl ⟨by kernel_rfl, ?h2⟩) ?_
      case h2 => (intro w; go_simp)
      go_simp
      refine wpAny_ready (rs := [0]) (by kernel_rfl) (by simp) ?_
      refine AllReady.cons rfl (fun K hK => ?_) AllReady.nil
      go_simp
      refine hK _ _ ?_
      clear hK K
      refine wpAny_ready (rs := [1]) (by kernel_rfl) (by simp) ?_
      refine AllReady.cons rfl (fun K hK => ?_) AllReady.nil
      go_simp
      go_wp2_with (go_at_call 9; refine Calls.mono (HRI.out _) ?_; rintro e w4 ⟨rfl, hb4⟩; have hg4 : Below W0.heap.size W0 w4 := HG3.out.drew.trans (hb4.mono HG3.out.size); have hf4 := HK0.out w4 hg4; have kd0 : w4.cell? ⟨w.heap.size, 0, none⟩ = some (.int .i64 e0) := (block_cell hf4 0 _ rfl).1; have kd1 : w4.cell? ⟨w.heap.size, 1, none⟩ = some (.int .i64 l0) := (block_cell hf4 1 _ rfl).1; have kd2 : w4.cell? ⟨w.heap.size, 2, none⟩ = some (.int .i64 k0) := (block_cell hf4 2 _ rfl).1; have kd3 : w4.cell? ⟨w.heap.size, 3, none⟩ = some (.int .i64 b00) := (block_cell hf4 3 _ rfl).1; have kd4 : w4.cell? ⟨w.heap.size, 4, none⟩ = some (.int .i64 b10) := (block_cell hf4 4 _ rfl).1; have kd5 : w4.cell? ⟨w.heap.size, 5, none⟩ = some (.int .i64 b20) := (block_cell hf4 5 _ rfl).1; have kd6 : w4.cell? ⟨w.heap.size, 6, none⟩ = some (.int .i64 b30) := (block_cell hf4 6 _ rfl).1; have kd7 : w4.cell? ⟨w.heap.size, 7, none⟩ = some (.int .i64 b40) := (block_cell hf4 7 _ rfl).1; have kd8 : w4.cell? ⟨w.heap.size, 8, none⟩ = some (.int .i64 b50) := (block_cell hf4 8 _ rfl).1; have hb34 : Below w3.heap.size w3 w4 := ((Below.refl w3.heap.size w3).drew).trans hb4; have hs4 := run_str (P := Try.prog) (cap := 72) (HO3.out.below hb34) (frame.enc_len f0) 25 5 9 Try.underlying25 Try.underlying5 Try.underlying9 HST.out; clear hb4 hf4)
      refine wpAny_take (i := 3) (v := .bool false) rfl (by kernel_rfl) (by kernel_rfl) (by kernel_rfl) (fun _ _ _ h => h) (Or.inl ⟨by kernel_rfl, ?h3⟩) ?_
      case h3 => (intro w; go_simp)
      go_simp
      refine wpAny_take (i := 4) (v := .bool false) rfl (by kernel_rfl) (by kernel_rfl) (by kernel_rfl) (fun _ _ _ h => h) (Or.inl ⟨by kernel_rfl, ?h4⟩) ?_
      case h4 => (intro w; go_simp)
      go_simp
      refine wpAny_take (i := 5) (v := .bool true) rfl (by kernel_rfl) (by kernel_rfl) (by kernel_rfl) (fun _ _ _ h => h) (Or.inl ⟨by kernel_rfl, ?h5⟩) ?_
      case h5 => (intro w; go_simp)
      go_simp
      refine wpAny_take (i := 6) (v := .bool true) rfl (by kernel_rfl) (by kernel_rfl) (by kernel_rfl) (fun _ _ _ h => h) (Or.inl ⟨by kernel_rfl, ?h6⟩) ?_
      case h6 => (intro w; go_simp)
      go_simp
      refine wpAny_take (i := 7) (v := .int .i64 0) rfl (by kernel_rfl) (by kernel_rfl) (by kernel_rfl) (fun _ _ _ h => h) (Or.inl ⟨by kernel_rfl, ?h7⟩) ?_
      case h7 => (intro w; go_simp)
      go_simp
      refine wpAny_take (i := 8) (v := .bool false) rfl (by kernel_rfl) (by kernel_rfl) (by kernel_rfl) (fun _ _ _ h => h) (Or.inl ⟨by kernel_rfl, ?h8⟩) ?_
      case h8 => (intro w; go_simp)
      go_simp
      refine wpAny_take (i := 9) (v := .bool false) rfl (by kernel_rfl) (by kernel_rfl) (by kernel_rfl) (fun _ _ _ h => h) (Or.inl ⟨by kernel_rfl, ?h9⟩) ?_
      case h9 => (intro w; go_simp)
      go_simp
      refine wpAny_take (i := 10) (v := .slice (some ⟨g3, 0, none⟩) 72 72) rfl (by kernel_rfl) (by kernel_rfl) (by kernel_rfl) (fun _ _ _ h => h) (Or.inl ⟨by kernel_rfl, ?h10⟩) ?_
      case h10 => (intro w; go_simp)
      go_simp
      refine wpAny_ready (rs := [11, 12]) (by kernel_rfl) (by simp) ?_
      refine AllReady.cons rfl (fun K hK => ?_) (AllReady.cons rfl (fun K hK => ?_) AllReady.nil)
      · go_simp
        refine hK _ _ ?_
        clear hK K
        refine wpAny_ready (rs := [12]) (by kernel_rfl) (by simp) ?_
        refine AllReady.cons rfl (fun K hK => ?_) AllReady.nil
        go_simp
        refine hK _ _ ?_
        clear hK K
        refine wpAny_ready (rs := [13]) (by kernel_rfl) (by simp) ?_
        refine AllReady.cons rfl (fun K hK => ?_) AllReady.nil
        go_simp
        go_wp2_with (go_at_call 10; refine Calls.mono (HRE.out _) ?_; rintro e w5 ⟨A5, c5, rfl, hown5, hb5⟩; have hg5 : Below W0.heap.size W0 w5 := hg4.trans (hb5.mono hg4.size); have hb35 : Below w3.heap.size w3 w5 := hb34.trans (hb5.mono hb34.size); have hs5 := run_str (P := Try.prog) (cap := 72) (HO3.out.below hb35) (frame.enc_len f0) 25 5 9 Try.underlying25 Try.underlying5 Try.underlying9 HST.out; have hs6 := run_str (P := Try.prog) (cap := c5) hown5.bys (frame.enc_len f0) 25 5 9 Try.underlying25 Try.underlying5 Try.underlying9 HST.out; clear hb5 hown5)
        refine wpAny_ready (rs := [14]) (by kernel_rfl) (by simp) ?_
        refine AllReady.cons rfl (fun K hK => ?_) AllReady.nil
        go_simp
        refine hK _ _ ?_
        clear hK K
        refine wpAny_take (i := 15) (v := .bool false) rfl (by kernel_rfl) (by kernel_rfl) (by kernel_rfl) (fun _ _ _ h => h) (Or.inl ⟨by kernel_rfl, ?h15⟩) ?_
        case h15 => (intro w; go_simp)
        go_simp
        refine wpAny_take (i := 16) (v := .bool false) rfl (by kernel_rfl) (by kernel_rfl) (by kernel_rfl) (fun _ _ _ h => h) (Or.inl ⟨by kernel_rfl, ?h16⟩) ?_
        case h16 => (intro w; go_simp)
        go_simp
        refine wpAny_take (i := 17) (v := .bool false) rfl (by kernel_rfl) (by kernel_rfl) (by kernel_rfl) (fun _ _ _ h => h) (Or.inl ⟨by kernel_rfl, ?h17⟩) ?_
        case h17 => (intro w; go_simp)
        go_simp
        refine wpAny_take (i := 18) (v := .bool false) rfl (by kernel_rfl) (by kernel_rfl) (by kernel_rfl) (fun _ _ _ h => h) (Or.inl ⟨by kernel_rfl, ?h18⟩) ?_
        case h18 => (intro w; go_simp)
        go_simp
        refine wpAny_take (i := 19) (v := .bool false) rfl (by kernel_rfl) (by kernel_rfl) (by kernel_rfl) (fun _ _ _ h => h) (Or.inl ⟨by kernel_rfl, ?h19⟩) ?_
        case h19 => (intro w; go_simp)
        go_simp
        refine wpAny_take (i := 20) (v := .bool true) rfl (by kernel_rfl) (by kernel_rfl) (by kernel_rfl) (fun _ _ _ h => h) (Or.inl ⟨by kernel_rfl, ?h20⟩) ?_
        case h20 => (intro w; go_simp)
        go_simp
        refine wpAny_take (i := 21) (v := .bool false) rfl (by kernel_rfl) (by kernel_rfl) (by kernel_rfl) (fun _ _ _ h => h) (Or.inl ⟨by kernel_rfl, ?h21⟩) ?_
        case h21 => (intro w; go_simp)
        go_simp
        refine wpAny_take (i := 22) (v := .bool false) rfl (by kernel_rfl) (by kernel_rfl) (by kernel_rfl) (fun _ _ _ h => h) (Or.inl ⟨by kernel_rfl, ?h22⟩) ?_
        case h22 => (intro w; go_simp)
        go_simp
        refine wpAny_take (i := 23) (v := undef) rfl (by kernel_rfl) (by kernel_rfl) (by kernel_rfl) (fun _ _ _ h => h) (Or.inr ⟨by kernel_rfl, rfl⟩) ?_
        go_simp
        refine wpAny_take (i := 24) (v := undef) rfl (by kernel_rfl) (by kernel_rfl) (by kernel_rfl) (fun _ _ _ h => h) (Or.inr ⟨by kernel_rfl, rfl⟩) ?_
        go_simp
        refine wpAny_take (i := 25) (v := undef) rfl (by kernel_rfl) (by kernel_rfl) (by kernel_rfl) (fun _ _ _ h => h) (Or.inr ⟨by kernel_rfl, rfl⟩) ?_
        go_simp
        refine wpAny_take (i := 26) (v := undef) rfl (by kernel_rfl) (by kernel_rfl) (by kernel_rfl) (fun _ _ _ h => h) (Or.inr ⟨by kernel_rfl, rfl⟩) ?_
        go_simp
        refine wpAny_take (i := 27) (v := undef) rfl (by kernel_rfl) (by kernel_rfl) (by kernel_rfl) (fun _ _ _ h => h) (Or.inr ⟨by kernel_rfl, rfl⟩) ?_
        go_simp
        refine wpAny_take (i := 28) (v := undef) rfl (by kernel_rfl) (by kernel_rfl) (by kernel_rfl) (fun _ _ _ h => h) (Or.inr ⟨by kernel_rfl, rfl⟩) ?_
        go_simp
        refine wpAny_take (i := 29) (v := undef) rfl (by kernel_rfl) (by kernel_rfl) (by kernel_rfl) (fun _ _ _ h => h) (Or.inr ⟨by kernel_rfl, rfl⟩) ?_
        go_simp
        refine wpAny_take (i := 30) (v := .bool false) rfl (by kernel_rfl) (by kernel_rfl) (by kernel_rfl) (fun _ _ _ h => h) (Or.inl ⟨by kernel_rfl, ?h30⟩) ?_
        case h30 => (intro w; go_simp)
        go_simp
        refine wpAny_take (i := 31) (v := .bool false) rfl (by kernel_rfl) (by kernel_rfl) (by kernel_rfl) (fun _ _ _ h => h) (Or.inl ⟨by kernel_rfl, ?h31⟩) ?_
        case h31 => (intro w; go_simp)
        go_simp
        refine wpAny_done (by kernel_rfl) ?_ _
        go_wp2_with fail
        go_meet
        exact ⟨rfl, hg5⟩
      · go_simp
        refine hK _ _ ?_
        clear hK K
        refine wpAny_ready (rs := [11, 13]) (by kernel_rfl) (by simp) ?_
        refine AllReady.cons rfl (fun K hK => ?_) (AllReady.cons rfl (fun K hK => ?_) AllReady.nil)
        · go_simp
          refine hK _ _ ?_
          clear hK K
          refine wpAny_ready (rs := [13]) (by kernel_rfl) (by simp) ?_
          refine AllReady.cons rfl (fun K hK => ?_) AllReady.nil
          go_simp
          go_wp2_with (go_at_call 10; refine Calls.mono (HRE.out _) ?_; rintro e w5 ⟨A5, c5, rfl, hown5, hb5⟩; have hg5 : Below W0.heap.size W0 w5 := hg4.trans (hb5.mono hg4.size); have hb35 : Below w3.heap.size w3 w5 := hb34.trans (hb5.mono hb34.size); have hs5 := run_str (P := Try.prog) (cap := 72) (HO3.out.below hb35) (frame.enc_len f0) 25 5 9 Try.underlying25 Try.underlying5 Try.underlying9 HST.out; have hs6 := run_str (P := Try.prog) (cap := c5) hown5.bys (frame.enc_len f0) 25 5 9 Try.underlying25 Try.underlying5 Try.underlying9 HST.out; clear hb5 hown5)
          refine wpAny_ready (rs := [14]) (by kernel_rfl) (by simp) ?_
          refine AllReady.cons rfl (fun K hK => ?_) AllReady.nil
          go_simp
          refine hK _ _ ?_
          clear hK K
          refine wpAny_take (i := 15) (v := .bool false) rfl (by kernel_rfl) (by kernel_rfl) (by kernel_rfl) (fun _ _ _ h => h) (Or.inl ⟨by kernel_rfl, ?h15⟩) ?_
          case h15 => (intro w; go_simp)
          go_simp
          refine wpAny_take (i := 16) (v := .bool false) rfl (by kernel_rfl) (by kernel_rfl) (by kernel_rfl) (fun _ _ _ h => h) (Or.inl ⟨by kernel_rfl, ?h16⟩) ?_
          case h16 => (intro w; go_simp)
          go_simp
          refine wpAny_take (i := 17) (v := .bool false) rfl (by kernel_rfl) (by kernel_rfl) (by kernel_rfl) (fun _ _ _ h => h) (Or.inl ⟨by kernel_rfl, ?h17⟩) ?_
          case h17 => (intro w; go_simp)
          go_simp
          refine wpAny_take (i := 18) (v := .bool false) rfl (by kernel_rfl) (by kernel_rfl) (by kernel_rfl) (fun _ _ _ h => h) (Or.inl ⟨by kernel_rfl, ?h18⟩) ?_
          case h18 => (intro w; go_simp)
          go_simp
          refine wpAny_take (i := 19) (v := .bool false) rfl (by kernel_rfl) (by kernel_rfl) (by kernel_rfl) (fun _ _ _ h => h) (Or.inl ⟨by kernel_rfl, ?h19⟩) ?_
          case h19 => (intro w; go_simp)
          go_simp
          refine wpAny_take (i := 20) (v := .bool true) rfl (by kernel_rfl) (by kernel_rfl) (by kernel_rfl) (fun _ _ _ h => h) (Or.inl ⟨by kernel_rfl, ?h20⟩) ?_
          case h20 => (intro w; go_simp)
          go_simp
          refine wpAny_take (i := 21) (v := .bool false) rfl (by kernel_rfl) (by kernel_rfl) (by kernel_rfl) (fun _ _ _ h => h) (Or.inl ⟨by kernel_rfl, ?h21⟩) ?_
          case h21 => (intro w; go_simp)
          go_simp
          refine wpAny_take (i := 22) (v := .bool false) rfl (by kernel_rfl) (by kernel_rfl) (by kernel_rfl) (fun _ _ _ h => h) (Or.inl ⟨by kernel_rfl, ?h22⟩) ?_
          case h22 => (intro w; go_simp)
          go_simp
          refine wpAny_take (i := 23) (v := undef) rfl (by kernel_rfl) (by kernel_rfl) (by kernel_rfl) (fun _ _ _ h => h) (Or.inr ⟨by kernel_rfl, rfl⟩) ?_
          go_simp
          refine wpAny_take (i := 24) (v := undef) rfl (by kernel_rfl) (by kernel_rfl) (by kernel_rfl) (fun _ _ _ h => h) (Or.inr ⟨by kernel_rfl, rfl⟩) ?_
          go_simp
          refine wpAny_take (i := 25) (v := undef) rfl (by kernel_rfl) (by kernel_rfl) (by kernel_rfl) (fun _ _ _ h => h) (Or.inr ⟨by kernel_rfl, rfl⟩) ?_
          go_simp
          refine wpAny_take (i := 26) (v := undef) rfl (by kernel_rfl) (by kernel_rfl) (by kernel_rfl) (fun _ _ _ h => h) (Or.inr ⟨by kernel_rfl, rfl⟩) ?_
          go_simp
          refine wpAny_take (i := 27) (v := undef) rfl (by kernel_rfl) (by kernel_rfl) (by kernel_rfl) (fun _ _ _ h => h) (Or.inr ⟨by kernel_rfl, rfl⟩) ?_
          go_simp
          refine wpAny_take (i := 28) (v := undef) rfl (by kernel_rfl) (by kernel_rfl) (by kernel_rfl) (fun _ _ _ h => h) (Or.inr ⟨by kernel_rfl, rfl⟩) ?_
          go_simp
          refine wpAny_take (i := 29) (v := undef) rfl (by kernel_rfl) (by kernel_rfl) (by kernel_rfl) (fun _ _ _ h => h) (Or.inr ⟨by kernel_rfl, rfl⟩) ?_
          go_simp
          refine wpAny_take (i := 30) (v := .bool false) rfl (by kernel_rfl) (by kernel_rfl) (by kernel_rfl) (fun _ _ _ h => h) (Or.inl ⟨by kernel_rfl, ?h30⟩) ?_
          case h30 => (intro w; go_simp)
          go_simp
          refine wpAny_take (i := 31) (v := .bool false) rfl (by kernel_rfl) (by kernel_rfl) (by kernel_rfl) (fun _ _ _ h => h) (Or.inl ⟨by kernel_rfl, ?h31⟩) ?_
          case h31 => (intro w; go_simp)
          go_simp
          refine wpAny_done (by kernel_rfl) ?_ _
          go_wp2_with fail
          go_meet
          exact ⟨rfl, hg5⟩
        · go_simp
          go_wp2_with (go_at_call 10; refine Calls.mono (HRE.out _) ?_; rintro e w5 ⟨A5, c5, rfl, hown5, hb5⟩; have hg5 : Below W0.heap.size W0 w5 := hg4.trans (hb5.mono hg4.size); have hb35 : Below w3.heap.size w3 w5 := hb34.trans (hb5.mono hb34.size); have hs5 := run_str (P := Try.prog) (cap := 72) (HO3.out.below hb35) (frame.enc_len f0) 25 5 9 Try.underlying25 Try.underlying5 Try.underlying9 HST.out; have hs6 := run_str (P := Try.prog) (cap := c5) hown5.bys (frame.enc_len f0) 25 5 9 Try.underlying25 Try.underlying5 Try.underlying9 HST.out; clear hb5 hown5)
          refine wpAny_ready (rs := [11, 14]) (by kernel_rfl) (by simp) ?_
          refine AllReady.cons rfl (fun K hK => ?_) (AllReady.cons rfl (fun K hK => ?_) AllReady.nil)
          · go_simp
            refine hK _ _ ?_
            clear hK K
            refine wpAny_ready (rs := [14]) (by kernel_rfl) (by simp) ?_
            refine AllReady.cons rfl (fun K hK => ?_) AllReady.nil
            go_simp
            refine hK _ _ ?_
            clear hK K
            refine wpAny_take (i := 15) (v := .bool false) rfl (by kernel_rfl) (by kernel_rfl) (by kernel_rfl) (fun _ _ _ h => h) (Or.inl ⟨by kernel_rfl, ?h15⟩) ?_
            case h15 => (intro w; go_simp)
            go_simp
            refine wpAny_take (i := 16) (v := .bool false) rfl (by kernel_rfl) (by kernel_rfl) (by kernel_rfl) (fun _ _ _ h => h) (Or.inl ⟨by kernel_rfl, ?h16⟩) ?_
            case h16 => (intro w; go_simp)
            go_simp
            refine wpAny_take (i := 17) (v := .bool false) rfl (by kernel_rfl) (by kernel_rfl) (by kernel_rfl) (fun _ _ _ h => h) (Or.inl ⟨by kernel_rfl, ?h17⟩) ?_
            case h17 => (intro w; go_simp)
            go_simp
            refine wpAny_take (i := 18) (v := .bool false) rfl (by kernel_rfl) (by kernel_rfl) (by kernel_rfl) (fun _ _ _ h => h) (Or.inl ⟨by kernel_rfl, ?h18⟩) ?_
            case h18 => (intro w; go_simp)
            go_simp
            refine wpAny_take (i := 19) (v := .bool false) rfl (by kernel_rfl) (by kernel_rfl) (by kernel_rfl) (fun _ _ _ h => h) (Or.inl ⟨by kernel_rfl, ?h19⟩) ?_
            case h19 => (intro w; go_simp)
            go_simp
            refine wpAny_take (i := 20) (v := .bool true) rfl (by kernel_rfl) (by kernel_rfl) (by kernel_rfl) (fun _ _ _ h => h) (Or.inl ⟨by kernel_rfl, ?h20⟩) ?_
            case h20 => (intro w; go_simp)
            go_simp
            refine wpAny_take (i := 21) (v := .bool false) rfl (by kernel_rfl) (by kernel_rfl) (by kernel_rfl) (fun _ _ _ h => h) (Or.inl ⟨by kernel_rfl, ?h21⟩) ?_
            case h21 => (intro w; go_simp)
            go_simp
            refine wpAny_take (i := 22) (v := .bool false) rfl (by kernel_rfl) (by kernel_rfl) (by kernel_rfl) (fun _ _ _ h => h) (Or.inl ⟨by kernel_rfl, ?h22⟩) ?_
            case h22 => (intro w; go_simp)
            go_simp
            refine wpAny_take (i := 23) (v := undef) rfl (by kernel_rfl) (by kernel_rfl) (by kernel_rfl) (fun _ _ _ h => h) (Or.inr ⟨by kernel_rfl, rfl⟩) ?_
            go_simp
            refine wpAny_take (i := 24) (v := undef) rfl (by kernel_rfl) (by kernel_rfl) (by kernel_rfl) (fun _ _ _ h => h) (Or.inr ⟨by kernel_rfl, rfl⟩) ?_
            go_simp
            refine wpAny_take (i := 25) (v := undef) rfl (by kernel_rfl) (by kernel_rfl) (by kernel_rfl) (fun _ _ _ h => h) (Or.inr ⟨by kernel_rfl, rfl⟩) ?_
            go_simp
            refine wpAny_take (i := 26) (v := undef) rfl (by kernel_rfl) (by kernel_rfl) (by kernel_rfl) (fun _ _ _ h => h) (Or.inr ⟨by kernel_rfl, rfl⟩) ?_
            go_simp
            refine wpAny_take (i := 27) (v := undef) rfl (by kernel_rfl) (by kernel_rfl) (by kernel_rfl) (fun _ _ _ h => h) (Or.inr ⟨by kernel_rfl, rfl⟩) ?_
            go_simp
            refine wpAny_take (i := 28) (v := undef) rfl (by kernel_rfl) (by kernel_rfl) (by kernel_rfl) (fun _ _ _ h => h) (Or.inr ⟨by kernel_rfl, rfl⟩) ?_
            go_simp
            refine wpAny_take (i := 29) (v := undef) rfl (by kernel_rfl) (by kernel_rfl) (by kernel_rfl) (fun _ _ _ h => h) (Or.inr ⟨by kernel_rfl, rfl⟩) ?_
            go_simp
            refine wpAny_take (i := 30) (v := .bool false) rfl (by kernel_rfl) (by kernel_rfl) (by kernel_rfl) (fun _ _ _ h => h) (Or.inl ⟨by kernel_rfl, ?h30⟩) ?_
            case h30 => (intro w; go_simp)
            go_simp
            refine wpAny_take (i := 31) (v := .bool false) rfl (by kernel_rfl) (by kernel_rfl) (by kernel_rfl) (fun _ _ _ h => h) (Or.inl ⟨by kernel_rfl, ?h31⟩) ?_
            case h31 => (intro w; go_simp)
            go_simp
            refine wpAny_done (by kernel_rfl) ?_ _
            go_wp2_with fail
            go_meet
            exact ⟨rfl, hg5⟩
          · go_simp
            refine hK _ _ ?_
            clear hK K
            refine wpAny_ready (rs := [11]) (by kernel_rfl) (by simp) ?_
            refine AllReady.cons rfl (fun K hK => ?_) AllReady.nil
            go_simp
            refine hK _ _ ?_
            clear hK K
            refine wpAny_take (i := 15) (v := .bool false) rfl (by kernel_rfl) (by kernel_rfl) (by kernel_rfl) (fun _ _ _ h => h) (Or.inl ⟨by kernel_rfl, ?h15⟩) ?_
            case h15 => (intro w; go_simp)
            go_simp
            refine wpAny_take (i := 16) (v := .bool false) rfl (by kernel_rfl) (by kernel_rfl) (by kernel_rfl) (fun _ _ _ h => h) (Or.inl ⟨by kernel_rfl, ?h16⟩) ?_
            case h16 => (intro w; go_simp)
            go_simp
            refine wpAny_take (i := 17) (v := .bool false) rfl (by kernel_rfl) (by kernel_rfl) (by kernel_rfl) (fun _ _ _ h => h) (Or.inl ⟨by kernel_rfl, ?h17⟩) ?_
            case h17 => (intro w; go_simp)
            go_simp
            refine wpAny_take (i := 18) (v := .bool false) rfl (by kernel_rfl) (by kernel_rfl) (by kernel_rfl) (fun _ _ _ h => h) (Or.inl ⟨by kernel_rfl, ?h18⟩) ?_
            case h18 => (intro w; go_simp)
            go_simp
            refine wpAny_take (i := 19) (v := .bool false) rfl (by kernel_rfl) (by kernel_rfl) (by kernel_rfl) (fun _ _ _ h => h) (Or.inl ⟨by kernel_rfl, ?h19⟩) ?_
            case h19 => (intro w; go_simp)
            go_simp
            refine wpAny_take (i := 20) (v := .bool true) rfl (by kernel_rfl) (by kernel_rfl) (by kernel_rfl) (fun _ _ _ h => h) (Or.inl ⟨by kernel_rfl, ?h20⟩) ?_
            case h20 => (intro w; go_simp)
            go_simp
            refine wpAny_take (i := 21) (v := .bool false) rfl (by kernel_rfl) (by kernel_rfl) (by kernel_rfl) (fun _ _ _ h => h) (Or.inl ⟨by kernel_rfl, ?h21⟩) ?_
            case h21 => (intro w; go_simp)
            go_simp
            refine wpAny_take (i := 22) (v := .bool false) rfl (by kernel_rfl) (by kernel_rfl) (by kernel_rfl) (fun _ _ _ h => h) (Or.inl ⟨by kernel_rfl, ?h22⟩) ?_
            case h22 => (intro w; go_simp)
            go_simp
            refine wpAny_take (i := 23) (v := undef) rfl (by kernel_rfl) (by kernel_rfl) (by kernel_rfl) (fun _ _ _ h => h) (Or.inr ⟨by kernel_rfl, rfl⟩) ?_
            go_simp
            refine wpAny_take (i := 24) (v := undef) rfl (by kernel_rfl) (by kernel_rfl) (by kernel_rfl) (fun _ _ _ h => h) (Or.inr ⟨by kernel_rfl, rfl⟩) ?_
            go_simp
            refine wpAny_take (i := 25) (v := undef) rfl (by kernel_rfl) (by kernel_rfl) (by kernel_rfl) (fun _ _ _ h => h) (Or.inr ⟨by kernel_rfl, rfl⟩) ?_
            go_simp
            refine wpAny_take (i := 26) (v := undef) rfl (by kernel_rfl) (by kernel_rfl) (by kernel_rfl) (fun _ _ _ h => h) (Or.inr ⟨by kernel_rfl, rfl⟩) ?_
            go_simp
            refine wpAny_take (i := 27) (v := undef) rfl (by kernel_rfl) (by kernel_rfl) (by kernel_rfl) (fun _ _ _ h => h) (Or.inr ⟨by kernel_rfl, rfl⟩) ?_
            go_simp
            refine wpAny_take (i := 28) (v := undef) rfl (by kernel_rfl) (by kernel_rfl) (by kernel_rfl) (fun _ _ _ h => h) (Or.inr ⟨by kernel_rfl, rfl⟩) ?_
            go_simp
            refine wpAny_take (i := 29) (v := undef) rfl (by kernel_rfl) (by kernel_rfl) (by kernel_rfl) (fun _ _ _ h => h) (Or.inr ⟨by kernel_rfl, rfl⟩) ?_
            go_simp
            refine wpAny_take (i := 30) (v := .bool false) rfl (by kernel_rfl) (by kernel_rfl) (by kernel_rfl) (fun _ _ _ h => h) (Or.inl ⟨by kernel_rfl, ?h30⟩) ?_
            case h30 => (intro w; go_simp)
            go_simp
            refine wpAny_take (i := 31) (v := .bool false) rfl (by kernel_rfl) (by kernel_rfl) (by kernel_rfl) (fun _ _ _ h => h) (Or.inl ⟨by kernel_rfl, ?h31⟩) ?_
            case h31 => (intro w; go_simp)
            go_simp
            refine wpAny_done (by kernel_rfl) ?_ _
            go_wp2_with fail
            go_meet
            exact ⟨rfl, hg5⟩
    case rest =>
      obtain ⟨rfl, hgc⟩ := hcut
      go_wp2_with fail
      refine Calls.mono (HDEC.out wc hgc) ?_
      rintro e w5 ⟨rfl, hb5⟩
      have hg5 : Below W0.heap.size W0 w5 := hgc.trans (hb5.mono hgc.size)
      have hg6 : Below W0.heap.size W0 (w5.alloc (.cells #[.int .i64 e2, .int .i64 l2, .int .i64 k2, .int .i64 b02, .int .i64 b12, .int .i64 b22, .int .i64 b32, .int .i64 b42, .int .i64 b52] 24)) := hg5.alloc hg5.size _
      clear hb5 hgc
      go_wp2_with fail
      refine Calls.mono (HRDC.out _ hg6) ?_
      rintro e w6 ⟨rfl, hb6⟩
      have hg7 : Below W0.heap.size W0 w6 := hg6.trans (hb6.mono hg6.size)
      have hx8 : w6.heap[w5.heap.size]? = some (.cells #[.int .i64 e2, .int .i64 l2, .int .i64 k2, .int .i64 b02, .int .i64 b12, .int .i64 b22, .int .i64 b32, .int .i64 b42, .int .i64 b52] 24 (0, 0)) := frame.box_cells hb6 (by simp) (heap_alloc_new w5 _)
      have hl8 : w5.heap.size < w6.heap.size := cell_block (block_cell hx8 0 (.int .i64 e2) rfl).1
      have hy8 : (w6.alloc (.cells #[.int .i64 e2, .int .i64 l2, .int .i64 k2, .int .i64 b02, .int .i64 b12, .int .i64 b22, .int .i64 b32, .int .i64 b42, .int .i64 b52] 24)).heap[w5.heap.size]? = some (.cells #[.int .i64 e2, .int .i64 l2, .int .i64 k2, .int .i64 b02, .int .i64 b12, .int .i64 b22, .int .i64 b32, .int .i64 b42, .int .i64 b52] 24 (0, 0)) := (Below.heap_alloc _ _ _ hl8).trans hx8
      have hz8 := heap_alloc_new w6 (.cells #[.int .i64 e2, .int .i64 l2, .int .i64 k2, .int .i64 b02, .int .i64 b12, .int .i64 b22, .int .i64 b32, .int .i64 b42, .int .i64 b52] 24)
      have ke0 : (w6.alloc (.cells #[.int .i64 e2, .int .i64 l2, .int .i64 k2, .int .i64 b02, .int .i64 b12, .int .i64 b22, .int .i64 b32, .int .i64 b42, .int .i64 b52] 24)).cell? ⟨w5.heap.size, 0, none⟩ = some (.int .i64 e2) := (block_cell hy8 0 _ rfl).1
      have ke1 : (w6.alloc (.cells #[.int .i64 e2, .int .i64 l2, .int .i64 k2, .int .i64 b02, .int .i64 b12, .int .i64 b22, .int .i64 b32, .int .i64 b42, .int .i64 b52] 24)).cell? ⟨w5.heap.size, 1, none⟩ = some (.int .i64 l2) := (block_cell hy8 1 _ rfl).1
      have ke2 : (w6.alloc (.cells #[.int .i64 e2, .int .i64 l2, .int .i64 k2, .int .i64 b02, .int .i64 b12, .int .i64 b22, .int .i64 b32, .int .i64 b42, .int .i64 b52] 24)).cell? ⟨w5.heap.size, 2, none⟩ = some (.int .i64 k2) := (block_cell hy8 2 _ rfl).1
      have ke3 : (w6.alloc (.cells #[.int .i64 e2, .int .i64 l2, .int .i64 k2, .int .i64 b02, .int .i64 b12, .int .i64 b22, .int .i64 b32, .int .i64 b42, .int .i64 b52] 24)).cell? ⟨w5.heap.size, 3, none⟩ = some (.int .i64 b02) := (block_cell hy8 3 _ rfl).1
      have ke4 : (w6.alloc (.cells #[.int .i64 e2, .int .i64 l2, .int .i64 k2, .int .i64 b02, .int .i64 b12, .int .i64 b22, .int .i64 b32, .int .i64 b42, .int .i64 b52] 24)).cell? ⟨w5.heap.size, 4, none⟩ = some (.int .i64 b12) := (block_cell hy8 4 _ rfl).1
      have ke5 : (w6.alloc (.cells #[.int .i64 e2, .int .i64 l2, .int .i64 k2, .int .i64 b02, .int .i64 b12, .int .i64 b22, .int .i64 b32, .int .i64 b42, .int .i64 b52] 24)).cell? ⟨w5.heap.size, 5, none⟩ = some (.int .i64 b22) := (block_cell hy8 5 _ rfl).1
      have ke6 : (w6.alloc (.cells #[.int .i64 e2, .int .i64 l2, .int .i64 k2, .int .i64 b02, .int .i64 b12, .int .i64 b22, .int .i64 b32, .int .i64 b42, .int .i64 b52] 24)).cell? ⟨w5.heap.size, 6, none⟩ = some (.int .i64 b32) := (block_cell hy8 6 _ rfl).1
      have ke7 : (w6.alloc (.cells #[.int .i64 e2, .int .i64 l2, .int .i64 k2, .int .i64 b02, .int .i64 b12, .int .i64 b22, .int .i64 b32, .int .i64 b42, .int .i64 b52] 24)).cell? ⟨w5.heap.size, 7, none⟩ = some (.int .i64 b42) := (block_cell hy8 7 _ rfl).1
      have ke8 : (w6.alloc (.cells #[.int .i64 e2, .int .i64 l2, .int .i64 k2, .int .i64 b02, .int .i64 b12, .int .i64 b22, .int .i64 b32, .int .i64 b42, .int .i64 b52] 24)).cell? ⟨w5.heap.size, 8, none⟩ = some (.int .i64 b52) := (block_cell hy8 8 _ rfl).1
      have kf0 : (w6.alloc (.cells #[.int .i64 e2, .int .i64 l2, .int .i64 k2, .int .i64 b02, .int .i64 b12, .int .i64 b22, .int .i64 b32, .int .i64 b42, .int .i64 b52] 24)).cell? ⟨w6.heap.size, 0, none⟩ = some (.int .i64 e2) := (block_cell hz8 0 _ rfl).1
      have kf1 : (w6.alloc (.cells #[.int .i64 e2, .int .i64 l2, .int .i64 k2, .int .i64 b02, .int .i64 b12, .int .i64 b22, .int .i64 b32, .int .i64 b42, .int .i64 b52] 24)).cell? ⟨w6.heap.size, 1, none⟩ = some (.int .i64 l2) := (block_cell hz8 1 _ rfl).1
      have kf2 : (w6.alloc (.cells #[.int .i64 e2, .int .i64 l2, .int .i64 k2, .int .i64 b02, .int .i64 b12, .int .i64 b22, .int .i64 b32, .int .i64 b42, .int .i64 b52] 24)).cell? ⟨w6.heap.size, 2, none⟩ = some (.int .i64 k2) := (block_cell hz8 2 _ rfl).1
      have kf3 : (w6.alloc (.cells #[.int .i64 e2, .int .i64 l2, .int .i64 k2, .int .i64 b02, .int .i64 b12, .int .i64 b22, .int .i64 b32, .int .i64 b42, .int .i64 b52] 24)).cell? ⟨w6.heap.size, 3, none⟩ = some (.int .i64 b02) := (block_cell hz8 3 _ rfl).1
      have kf4 : (w6.alloc (.cells #[.int .i64 e2, .int .i64 l2, .int .i64 k2, .int .i64 b02, .int .i64 b12, .int .i64 b22, .int .i64 b32, .int .i64 b42, .int .i64 b52] 24)).cell? ⟨w6.heap.size, 4, none⟩ = some (.int .i64 b12) := (block_cell hz8 4 _ rfl).1
      have kf5 : (w6.alloc (.cells #[.int .i64 e2, .int .i64 l2, .int .i64 k2, .int .i64 b02, .int .i64 b12, .int .i64 b22, .int .i64 b32, .int .i64 b42, .int .i64 b52] 24)).cell? ⟨w6.heap.size, 5, none⟩ = some (.int .i64 b22) := (block_cell hz8 5 _ rfl).1
      have kf6 : (w6.alloc (.cells #[.int .i64 e2, .int .i64 l2, .int .i64 k2, .int .i64 b02, .int .i64 b12, .int .i64 b22, .int .i64 b32, .int .i64 b42, .int .i64 b52] 24)).cell? ⟨w6.heap.size, 6, none⟩ = some (.int .i64 b32) := (block_cell hz8 6 _ rfl).1
      have kf7 : (w6.alloc (.cells #[.int .i64 e2, .int .i64 l2, .int .i64 k2, .int .i64 b02, .int .i64 b12, .int .i64 b22, .int .i64 b32, .int .i64 b42, .int .i64 b52] 24)).cell? ⟨w6.heap.size, 7, none⟩ = some (.int .i64 b42) := (block_cell hz8 7 _ rfl).1
      have kf8 : (w6.alloc (.cells #[.int .i64 e2, .int .i64 l2, .int .i64 k2, .int .i64 b02, .int .i64 b12, .int .i64 b22, .int .i64 b32, .int .i64 b42, .int .i64 b52] 24)).cell? ⟨w6.heap.size, 8, none⟩ = some (.int .i64 b52) := (block_cell hz8 8 _ rfl).1
      clear hx8 hy8 hz8 hb6
      go_wp2
      go_ret
      exact ⟨rfl, HBW.out.trans ((hg7.alloc hg7.size _).mono (by have := HSZ.out; omega))⟩

set_option maxRecDepth 100000 in
theorem lifted (os : Os) (started : os.Started) (H : Type) (enc : TypeId × Value → H) :
    ReturnsInHanded {} Try.checked os 3 .any (Rows.frameRightSpec.pre6 enc Try.prog Try.f3 Rows.frameRightRow.domain false) (Rows.frameRightSpec.post enc Try.prog Try.f3 false true false false) := by
  refine returnsInHanded_of_change (C := Try.checked) own started (by kernel_rfl) Try.func3
    (ChangeSpec.witness6 (enc := enc) (C := Try.checked) false ⟨#[], #[.agg #[.int .i64 0, .int .i64 0, .int .i64 0, .int .i64 0, .int .i64 0, .int .i64 0, .int .i64 0, .int .i64 0, .int .i64 0], .slice none 0 0], []⟩ 8 (by kernel_rfl) (by kernel_rfl) (by kernel_rfl) (by kernel_rfl)) ?_
  intro W base args ds gs before hval0 hW hcnd _
  have hval : ∀ (j : Nat) t v, Try.f3.params[j]? = some t → args[j]? = some v → Value.okWide Try.prog W .any base t v := hval0
  have hW' := hW
  obtain ⟨p, q, hA0, hV, rfl, hfz, hnd⟩ := hW
  have hA : DataW.TrodAll enc Try.prog W 0 (fun _ => true) true Try.f3.params.toList args.toList ds p := hA0
  rw [Try.params3] at hA hval
  obtain ⟨v0, vs0, d0, ds0, p0_, q0, hargs, rfl, rfl, h0, r0⟩ := trodAll_cons hA
  obtain ⟨v1, vs1, d1, ds1, p1_, q1, rfl, rfl, rfl, h1, r1⟩ := trodAll_cons r0
  obtain ⟨rfl, rfl, rfl⟩ := trodAll_nil r1
  obtain rfl : args = #[v0, v1] := by cases args; simp_all
  obtain ⟨rfl, rfl⟩ := trodVars_none hV
  obtain ⟨cs0, rfl, hsz0⟩ := okWide_struct Try.underlying24 (hval 0 24 v0 rfl rfl)
  have k0 := h0
  have lt0 : ∀ x ∈ p0_, x.block < W.heap.size := by obtain ⟨m, hm⟩ := k0; exact DataW.trod_lt m _ _ _ hm
  obtain ⟨x0, w0⟩ := of_arg of_frame k0
  obtain ⟨p1, n1, c1, rfl⟩ := okWide_slice Try.underlying25 (hval 1 25 v1 rfl rfl)
  have k1 := h1
  have lt1 : ∀ x ∈ p1_, x.block < W.heap.size := by obtain ⟨m, hm⟩ := k1; exact DataW.trod_lt m _ _ _ hm
  obtain ⟨x1, w1⟩ := of_arg (of_bytes Try.underlying25 Try.underlying5 (by kernel_rfl)) k1
  clear hA0 hval0
  refine (walk cs0 x0 p1 n1 c1 x1 W w0 w1).mono fun e W' ⟨he, bel⟩ => ?_
  subst he
  exact ⟨_, rfl, _, _, _, [], _, [], hW', trodAll_mk1 (shut_bool Try.underlying4 _), (trodAll_cons_mk (Below.trod laidOut (by kernel_rfl) (of_decide_eq_true (by kernel_rfl)) k0 bel lt0) (trodAll_cons_mk (Below.trod laidOut (by kernel_rfl) (of_decide_eq_true (by kernel_rfl)) k1 bel lt1) trodAll_mk0)), rfl, bel.frame _, fun h => by cases h⟩

theorem over : Rows.frameRightRow.holds Try.pinned (OpenSpec.ofChange Rows.frameRightSpec) :=
  OpenClaim.holds_of_wide 3 Try.f3 rfl rfl rfl rfl rfl rfl rfl ⟨rfl, rfl, rfl, rfl, rfl⟩ rfl rfl rfl rfl rfl (by kernel_rfl) Try.func3 (by kernel_rfl)
    (of_decide_eq_true (by kernel_rfl)) (by unfold Func.isWrapper; first | (rw [if_pos (by decide +kernel)]; kernel_rfl) | (rw [if_neg (by decide +kernel)]; exact ⟨rfl, rfl⟩))
    (fun os started H enc _ => lifted os started H enc)

theorem proved : Rows.FrameRightSaid := over
#print axioms proved
end Go.Proofs.Ytnfdoiaidkkkeaa.frameRight
