/-
  PROVED: the law FrameBack answers true at every input, and leaves what it was given as it was.
  CONDITIONS: none.
-/
import Derived.Test.YtnfdoiaidkkkeaaRows
import Derived.WalkKit
import Derived.ProofKit
import Derived.OpenShut
import Derived.ShutString
import Derived.ChangeOld
import Derived.Below
import Derived.Test.YtnfdoiaidkkkeaaApi04
import Derived.Test.YtnfdoiaidkkkeaaStr
import Derived.Test.YtnfdoiaidkkkeaaFrameImpl4
import Derived.Deep.DeepCutAuto
namespace Go.Proofs.Ytnfdoiaidkkkeaa.frameBack
open Go.ChangeShapes Go.WideShapes Go.ChangeAt Go.RowKit
open Go.ChangeMaps (open_string shut_string)
set_option linter.unusedVariables false

theorem own : ownKnob Try.prog.godebug = none := by kernel_rfl
theorem laidOut : laidOutB Try.prog = true := by kernel_rfl

set_option maxHeartbeats 2000000 in
set_option maxRecDepth 100000 in
theorem walk (cs0 : Array Value) (x0 : FrameD) (cs1 : Array Value) (x1 : FrameD) (p2 : Option Addr) (n2 c2 : Nat) (x2 : List Nat) (w : World) (w0 : rdFrame w (Lt w.heap.size) cs0.toList x0) (w1 : rdFrame w (Lt w.heap.size) cs1.toList x1) (w2 : rdBytes w (Lt w.heap.size) [.slice p2 n2 c2] x2) :
    Calls Try.prog 4 #[.agg cs0, .agg cs1, .slice p2 n2 c2] w fun e w' => e = .returned (.bool true) ∧ Below w.heap.size w w' := by
  obtain ⟨w0, g0⟩ := w0
  obtain ⟨w1, g1⟩ := w1
  obtain ⟨A, m, cp, hA, hin, hlen, hcap, hmax⟩ := w2
  simp only [List.cons.injEq, Value.slice.injEq, and_true] at hA
  obtain ⟨rfl, rfl, rfl⟩ := hA
  have hx : Bys w w.heap.size p2 x2 := BysIn.bys hin (fun b h => h)
  have hlt := hx.lt
  obtain rfl : cs0 = frame.fc x0 := by apply Array.toList_inj.1; exact w0
  obtain rfl : cs1 = frame.fc x1 := by apply Array.toList_inj.1; exact w1
  clear w0 w1 hin
  obtain ⟨e0, l0, k0, b00, b10, b20, b30, b40, b50⟩ := x0
  obtain ⟨e1, l1, k1, b01, b11, b21, b31, b41, b51⟩ := x1
  obtain ⟨f0, HF0⟩ : ∃ f, Hid ((⟨e0, l0, k0, b00, b10, b20, b30, b40, b50⟩ : frame.Fr) = f) := ⟨_, Lib.hid rfl⟩
  obtain ⟨f1, HF1⟩ : ∃ f, Hid ((⟨e1, l1, k1, b01, b11, b21, b31, b41, b51⟩ : frame.Fr) = f) := ⟨_, Lib.hid rfl⟩
  show Calls Try.prog 4 #[.agg #[.int .i64 e0, .int .i64 l0, .int .i64 k0, .int .i64 b00, .int .i64 b10, .int .i64 b20, .int .i64 b30, .int .i64 b40, .int .i64 b50], .agg #[.int .i64 e1, .int .i64 l1, .int .i64 k1, .int .i64 b01, .int .i64 b11, .int .i64 b21, .int .i64 b31, .int .i64 b41, .int .i64 b51], .slice p2 n2 c2] w _
  have G0 : Hid f0.fine := Lib.hid (by rw [← HF0.out]; exact g0)
  have G1 : Hid f1.fine := Lib.hid (by rw [← HF1.out]; exact g1)
  have HN := Lib.hid hlen
  have hmax' : c2 ≤ 9223372036854775807 := by unfold maxLen at hmax; omega
  clear g0 g1 hlen hmax
  obtain ⟨W0, HW0⟩ : ∃ W, Hid (((w.alloc (.cells #[.int .i64 e0, .int .i64 l0, .int .i64 k0, .int .i64 b00, .int .i64 b10, .int .i64 b20, .int .i64 b30, .int .i64 b40, .int .i64 b50] 24)).alloc (.cells #[.int .i64 e1, .int .i64 l1, .int .i64 k1, .int .i64 b01, .int .i64 b11, .int .i64 b21, .int .i64 b31, .int .i64 b41, .int .i64 b51] 24)) = W) := ⟨_, Lib.hid rfl⟩
  have hbW : Below w.heap.size w W0 := by rw [← HW0.out]; exact ((Below.refl _ _).alloc (Nat.le_refl _) _).alloc (by simp) _
  have hsz : w.heap.size + 1 + 1 = W0.heap.size := by rw [← HW0.out]; simp
  have HK0 : Hid (∀ W, Below W0.heap.size W0 W → W.heap[w.heap.size]? = some (.cells #[.int .i64 e0, .int .i64 l0, .int .i64 k0, .int .i64 b00, .int .i64 b10, .int .i64 b20, .int .i64 b30, .int .i64 b40, .int .i64 b50] 24 (0, 0))) := Lib.hid (fun W hb => (hb.block _ (by omega)).trans (by rw [← HW0.out]; exact (Below.heap_alloc _ _ _ (by simp)).trans (heap_alloc_new w _)))
  have HK1 : Hid (∀ W, Below W0.heap.size W0 W → W.heap[w.heap.size + 1]? = some (.cells #[.int .i64 e1, .int .i64 l1, .int .i64 k1, .int .i64 b01, .int .i64 b11, .int .i64 b21, .int .i64 b31, .int .i64 b41, .int .i64 b51] 24 (0, 0))) := Lib.hid (fun W hb => (hb.block _ (by omega)).trans (by rw [← HW0.out]; have := heap_alloc_new (w.alloc (.cells #[.int .i64 e0, .int .i64 l0, .int .i64 k0, .int .i64 b00, .int .i64 b10, .int .i64 b20, .int .i64 b30, .int .i64 b40, .int .i64 b50] 24)) (.cells #[.int .i64 e1, .int .i64 l1, .int .i64 k1, .int .i64 b01, .int .i64 b11, .int .i64 b21, .int .i64 b31, .int .i64 b41, .int .i64 b51] 24); simpa using this))
  have HBW := Lib.hid hbW
  have HSZ := Lib.hid hsz
  have HX : Hid (∀ W, Below W0.heap.size W0 W → Bys W w.heap.size p2 x2) := Lib.hid (fun W hb => hx.below (hbW.trans (hb.mono (by omega))))
  clear hbW hsz hx
  by_cases h200 : 200 < n2
  · go_enter Try.func4, Try.ntmps4
    go_wp2_with ((with_reducible refine (frame.awake_any _).mono ?_); rintro e w' ⟨rfl, hg0⟩; have hg : Below W0.heap.size W0 w' := (by rw [HW0.out] at hg0; exact hg0); clear hg0)
    go_ret
    exact ⟨rfl, HBW.out.trans (hg.mono (by rw [← HSZ.out]; omega))⟩
  obtain ⟨W1, hW1⟩ : ∃ W : World, True := ⟨W0, trivial⟩
  clear hW1 W1
  obtain ⟨d, h, HD⟩ : ∃ d h, Hid (frame.dec x2 = (d, h)) := ⟨_, _, Lib.hid rfl⟩
  obtain ⟨e2, l2, k2, b02, b12, b22, b32, b42, b52⟩ := h
  obtain ⟨f2, HF2⟩ : ∃ f, Hid ((⟨e2, l2, k2, b02, b12, b22, b32, b42, b52⟩ : frame.Fr) = f) := ⟨_, Lib.hid rfl⟩
  have G2 : Hid f2.fine := Lib.hid (by have := frame.dec_fine hlt; rw [HD.out] at this; rw [← HF2.out]; exact this)
  have HDEC : Hid (∀ W, Below W0.heap.size W0 W → Calls Try.prog 11 #[.slice p2 n2 c2] W fun e' w' => e' = .returned (.tuple #[.agg #[.int .i64 e2, .int .i64 l2, .int .i64 k2, .int .i64 b02, .int .i64 b12, .int .i64 b22, .int .i64 b32, .int .i64 b42, .int .i64 b52], .int .i64 d]) ∧ Below W.heap.size W w') := Lib.hid (fun W hb => frame.decode_of W (HX.out W hb) (by have := hb.size; have := HSZ.out; omega) HN.out hcap hmax' HD.out)
  have hdc : (d = 0 ∧ Hid (frame.right f2 = true) ∧ Hid (frame.enc f2 = x2)) ∨ ((d == 0) = false ∧ Hid (f2 = frame.zero)) := by
    by_cases h0 : d = 0
    · have := frame.dec_ok hlt (by rw [HD.out]; exact h0)
      rw [HD.out] at this
      exact .inl ⟨h0, Lib.hid (by rw [← HF2.out]; exact this.1), Lib.hid (by rw [← HF2.out]; exact this.2.1)⟩
    · have := frame.dec_no (l := x2) (by rw [HD.out]; exact h0)
      rw [HD.out] at this
      exact .inr ⟨by simp; exact h0, Lib.hid (by rw [← HF2.out]; exact this)⟩
  clear hlt HD
  have h200' : n2 ≤ 200 := by omega
  have hn200 : ¬ 200 < n2 := h200
  clear h200
  go_enter Try.func4, Try.ntmps4
  go_upto_region 5 with ((with_reducible refine (frame.awake_any _).mono ?_); rintro e w1 ⟨rfl, hg0⟩; have hg : Below W0.heap.size W0 w1 := (by rw [HW0.out] at hg0; exact hg0); clear hg0)
  go_wp2_with fail
  refine Calls.mono (HDEC.out w1 hg) ?_
  rintro e' w2 ⟨rfl, hg2⟩
  have HG2 : Hid (Below W0.heap.size W0 w2) := Lib.hid (hg.trans (hg2.mono hg.size))
  have HG3 : Hid (Below W0.heap.size W0 (w2.alloc (.cells #[.int .i64 e2, .int .i64 l2, .int .i64 k2, .int .i64 b02, .int .i64 b12, .int .i64 b22, .int .i64 b32, .int .i64 b42, .int .i64 b52] 24))) := Lib.hid (HG2.out.alloc HG2.out.size _)
  clear hg hg2
  go_upto_if 28 with fail
  go_cut [6] (fun s6 wx => s6 = .bool false ∧ Below W0.heap.size W0 wx)
  case first =>
    rcases hdc with ⟨rfl, HR2, HE2⟩ | ⟨hd0, HZ2⟩
    · go_wp2_with fail
      refine Calls.mono (frame.encode_yes_of HF2.out G2.out HR2.out _) ?_
      rintro e' w3 ⟨g3, rfl, hown3, hb3⟩
      have hx3 : w3.heap[w2.heap.size]? = some (.cells #[.int .i64 e2, .int .i64 l2, .int .i64 k2, .int .i64 b02, .int .i64 b12, .int .i64 b22, .int .i64 b32, .int .i64 b42, .int .i64 b52] 24 (0, 0)) := frame.box_cells hb3 (by simp) (heap_alloc_new w2 _)
      have kc0 : w3.cell? ⟨w2.heap.size, 0, none⟩ = some (.int .i64 e2) := (block_cell hx3 0 _ rfl).1
      have kc1 : w3.cell? ⟨w2.heap.size, 1, none⟩ = some (.int .i64 l2) := (block_cell hx3 1 _ rfl).1
      have kc2 : w3.cell? ⟨w2.heap.size, 2, none⟩ = some (.int .i64 k2) := (block_cell hx3 2 _ rfl).1
      have kc3 : w3.cell? ⟨w2.heap.size, 3, none⟩ = some (.int .i64 b02) := (block_cell hx3 3 _ rfl).1
      have kc4 : w3.cell? ⟨w2.heap.size, 4, none⟩ = some (.int .i64 b12) := (block_cell hx3 4 _ rfl).1
      have kc5 : w3.cell? ⟨w2.heap.size, 5, none⟩ = some (.int .i64 b22) := (block_cell hx3 5 _ rfl).1
      have kc6 : w3.cell? ⟨w2.heap.size, 6, none⟩ = some (.int .i64 b32) := (block_cell hx3 6 _ rfl).1
      have kc7 : w3.cell? ⟨w2.heap.size, 7, none⟩ = some (.int .i64 b42) := (block_cell hx3 7 _ rfl).1
      have kc8 : w3.cell? ⟨w2.heap.size, 8, none⟩ = some (.int .i64 b52) := (block_cell hx3 8 _ rfl).1
      have HG4 : Hid (Below W0.heap.size W0 w3) := Lib.hid (HG3.out.trans (hb3.mono HG3.out.size))
      obtain ⟨s2, HS2⟩ : ∃ s, Hid (strB x2 = s) := ⟨_, Lib.hid rfl⟩
      have hs1 := run_str (P := Try.prog) (cap := 72) hown3.bys (frame.enc_len f2) 25 5 9 Try.underlying25 Try.underlying5 Try.underlying9 (s := s2) (by rw [HE2.out]; exact HS2.out)
      have hs2 := run_str (P := Try.prog) (cap := c2) (HX.out w3 HG4.out) HN.out 25 5 9 Try.underlying25 Try.underlying5 Try.underlying9 HS2.out
      clear hx3 hb3 hown3
      go_wp2_with ((refine Calls.mono (frame.right_of HF2.out HR2.out _) ?_); rintro e' w4 ⟨rfl, hb4⟩)
      go_meet
      exact ⟨rfl, HG4.out.trans (hb4.mono HG4.out.size)⟩
    · have heq : ∀ W, (Op.equalIn 10000 24 (.agg #[.int .i64 e2, .int .i64 l2, .int .i64 k2, .int .i64 b02, .int .i64 b12, .int .i64 b22, .int .i64 b32, .int .i64 b42, .int .i64 b52]) (.agg #[.int .i64 0, .int .i64 0, .int .i64 0, .int .i64 0, .int .i64 0, .int .i64 0, .int .i64 0, .int .i64 0, .int .i64 0])).run Try.prog W = .ok true W :=
        fun W => frame.eq_of HF2.out rfl G2.out frame.zero_fine (decide_eq_true HZ2.out) W
      go_wp2_with fail
      go_meet
      exact ⟨rfl, HG3.out⟩
  case rest =>
    obtain ⟨rfl, hgc⟩ := hcut
    have hf0 := HK0.out wc hgc
    have hf1 := HK1.out wc hgc
    have ka0 : wc.cell? ⟨w.heap.size, 0, none⟩ = some (.int .i64 e0) := (block_cell hf0 0 _ rfl).1
    have ka1 : wc.cell? ⟨w.heap.size, 1, none⟩ = some (.int .i64 l0) := (block_cell hf0 1 _ rfl).1
    have ka2 : wc.cell? ⟨w.heap.size, 2, none⟩ = some (.int .i64 k0) := (block_cell hf0 2 _ rfl).1
    have ka3 : wc.cell? ⟨w.heap.size, 3, none⟩ = some (.int .i64 b00) := (block_cell hf0 3 _ rfl).1
    have ka4 : wc.cell? ⟨w.heap.size, 4, none⟩ = some (.int .i64 b10) := (block_cell hf0 4 _ rfl).1
    have ka5 : wc.cell? ⟨w.heap.size, 5, none⟩ = some (.int .i64 b20) := (block_cell hf0 5 _ rfl).1
    have ka6 : wc.cell? ⟨w.heap.size, 6, none⟩ = some (.int .i64 b30) := (block_cell hf0 6 _ rfl).1
    have ka7 : wc.cell? ⟨w.heap.size, 7, none⟩ = some (.int .i64 b40) := (block_cell hf0 7 _ rfl).1
    have ka8 : wc.cell? ⟨w.heap.size, 8, none⟩ = some (.int .i64 b50) := (block_cell hf0 8 _ rfl).1
    have kb0 : wc.cell? ⟨w.heap.size + 1, 0, none⟩ = some (.int .i64 e1) := (block_cell hf1 0 _ rfl).1
    have kb1 : wc.cell? ⟨w.heap.size + 1, 1, none⟩ = some (.int .i64 l1) := (block_cell hf1 1 _ rfl).1
    have kb2 : wc.cell? ⟨w.heap.size + 1, 2, none⟩ = some (.int .i64 k1) := (block_cell hf1 2 _ rfl).1
    have kb3 : wc.cell? ⟨w.heap.size + 1, 3, none⟩ = some (.int .i64 b01) := (block_cell hf1 3 _ rfl).1
    have kb4 : wc.cell? ⟨w.heap.size + 1, 4, none⟩ = some (.int .i64 b11) := (block_cell hf1 4 _ rfl).1
    have kb5 : wc.cell? ⟨w.heap.size + 1, 5, none⟩ = some (.int .i64 b21) := (block_cell hf1 5 _ rfl).1
    have kb6 : wc.cell? ⟨w.heap.size + 1, 6, none⟩ = some (.int .i64 b31) := (block_cell hf1 6 _ rfl).1
    have kb7 : wc.cell? ⟨w.heap.size + 1, 7, none⟩ = some (.int .i64 b41) := (block_cell hf1 7 _ rfl).1
    have kb8 : wc.cell? ⟨w.heap.size + 1, 8, none⟩ = some (.int .i64 b51) := (block_cell hf1 8 _ rfl).1
    have HGC := Lib.hid hgc
    clear hf0 hf1 hgc hdc HDEC HG2 HG3 HX
    obtain ⟨r0, HR0⟩ : ∃ r, Hid (frame.right f0 = r) := ⟨_, Lib.hid rfl⟩
    obtain ⟨r1, HR1⟩ : ∃ r, Hid (frame.right f1 = r) := ⟨_, Lib.hid rfl⟩
    rcases r0 with _ | _
    · go_wp2_with fail
      refine Calls.mono (frame.encode_no_of HF0.out HR0.out wc) ?_
      rintro e' w5 ⟨rfl, hb5⟩
      have hg5 : Below W0.heap.size W0 w5 := HGC.out.trans (hb5.mono HGC.out.size)
      have hf1 := HK1.out w5 hg5
      have kd0 : w5.cell? ⟨w.heap.size + 1, 0, none⟩ = some (.int .i64 e1) := (block_cell hf1 0 _ rfl).1
      have kd1 : w5.cell? ⟨w.heap.size + 1, 1, none⟩ = some (.int .i64 l1) := (block_cell hf1 1 _ rfl).1
      have kd2 : w5.cell? ⟨w.heap.size + 1, 2, none⟩ = some (.int .i64 k1) := (block_cell hf1 2 _ rfl).1
      have kd3 : w5.cell? ⟨w.heap.size + 1, 3, none⟩ = some (.int .i64 b01) := (block_cell hf1 3 _ rfl).1
      have kd4 : w5.cell? ⟨w.heap.size + 1, 4, none⟩ = some (.int .i64 b11) := (block_cell hf1 4 _ rfl).1
      have kd5 : w5.cell? ⟨w.heap.size + 1, 5, none⟩ = some (.int .i64 b21) := (block_cell hf1 5 _ rfl).1
      have kd6 : w5.cell? ⟨w.heap.size + 1, 6, none⟩ = some (.int .i64 b31) := (block_cell hf1 6 _ rfl).1
      have kd7 : w5.cell? ⟨w.heap.size + 1, 7, none⟩ = some (.int .i64 b41) := (block_cell hf1 7 _ rfl).1
      have kd8 : w5.cell? ⟨w.heap.size + 1, 8, none⟩ = some (.int .i64 b51) := (block_cell hf1 8 _ rfl).1
      clear hf1 hb5
      rcases r1 with _ | _
      · go_wp2_with fail
        refine Calls.mono (frame.encode_no_of HF1.out HR1.out w5) ?_
        rintro e' w6 ⟨rfl, hb6⟩
        have hg6 : Below W0.heap.size W0 w6 := hg5.trans (hb6.mono hg5.size)
        have hf0 := HK0.out w6 hg6
        have ke0 : w6.cell? ⟨w.heap.size, 0, none⟩ = some (.int .i64 e0) := (block_cell hf0 0 _ rfl).1
        have ke1 : w6.cell? ⟨w.heap.size, 1, none⟩ = some (.int .i64 l0) := (block_cell hf0 1 _ rfl).1
        have ke2 : w6.cell? ⟨w.heap.size, 2, none⟩ = some (.int .i64 k0) := (block_cell hf0 2 _ rfl).1
        have ke3 : w6.cell? ⟨w.heap.size, 3, none⟩ = some (.int .i64 b00) := (block_cell hf0 3 _ rfl).1
        have ke4 : w6.cell? ⟨w.heap.size, 4, none⟩ = some (.int .i64 b10) := (block_cell hf0 4 _ rfl).1
        have ke5 : w6.cell? ⟨w.heap.size, 5, none⟩ = some (.int .i64 b20) := (block_cell hf0 5 _ rfl).1
        have ke6 : w6.cell? ⟨w.heap.size, 6, none⟩ = some (.int .i64 b30) := (block_cell hf0 6 _ rfl).1
        have ke7 : w6.cell? ⟨w.heap.size, 7, none⟩ = some (.int .i64 b40) := (block_cell hf0 7 _ rfl).1
        have ke8 : w6.cell? ⟨w.heap.size, 8, none⟩ = some (.int .i64 b50) := (block_cell hf0 8 _ rfl).1
        clear hf0 hb6
        go_wp2_with (first
          | ((with_reducible refine Calls.mono (frame.right_of HF0.out HR0.out _) ?_); rintro e' w7 ⟨rfl, hb7⟩; have hg7 : Below W0.heap.size W0 w7 := hg6.trans (hb7.mono hg6.size); have hf1 := HK1.out w7 hg7; have kf0 : w7.cell? ⟨w.heap.size + 1, 0, none⟩ = some (.int .i64 e1) := (block_cell hf1 0 _ rfl).1; have kf1 : w7.cell? ⟨w.heap.size + 1, 1, none⟩ = some (.int .i64 l1) := (block_cell hf1 1 _ rfl).1; have kf2 : w7.cell? ⟨w.heap.size + 1, 2, none⟩ = some (.int .i64 k1) := (block_cell hf1 2 _ rfl).1; have kf3 : w7.cell? ⟨w.heap.size + 1, 3, none⟩ = some (.int .i64 b01) := (block_cell hf1 3 _ rfl).1; have kf4 : w7.cell? ⟨w.heap.size + 1, 4, none⟩ = some (.int .i64 b11) := (block_cell hf1 4 _ rfl).1; have kf5 : w7.cell? ⟨w.heap.size + 1, 5, none⟩ = some (.int .i64 b21) := (block_cell hf1 5 _ rfl).1; have kf6 : w7.cell? ⟨w.heap.size + 1, 6, none⟩ = some (.int .i64 b31) := (block_cell hf1 6 _ rfl).1; have kf7 : w7.cell? ⟨w.heap.size + 1, 7, none⟩ = some (.int .i64 b41) := (block_cell hf1 7 _ rfl).1; have kf8 : w7.cell? ⟨w.heap.size + 1, 8, none⟩ = some (.int .i64 b51) := (block_cell hf1 8 _ rfl).1; clear hf1 hb7)
          | ((with_reducible refine Calls.mono (frame.right_of HF1.out HR1.out _) ?_); rintro e' w8 ⟨rfl, hb8⟩; have hg8 : Below W0.heap.size W0 w8 := hg7.trans (hb8.mono hg7.size); clear hb8))
        go_ret
        exact ⟨rfl, HBW.out.trans (hg8.mono (by rw [← HSZ.out]; omega))⟩
      · go_wp2_with fail
        refine Calls.mono (frame.encode_yes_of HF1.out G1.out HR1.out w5) ?_
        rintro e' w6 ⟨g6, rfl, hown6, hb6⟩
        have hg6 : Below W0.heap.size W0 w6 := hg5.trans (hb6.mono hg5.size)
        have hf0 := HK0.out w6 hg6
        have ke0 : w6.cell? ⟨w.heap.size, 0, none⟩ = some (.int .i64 e0) := (block_cell hf0 0 _ rfl).1
        have ke1 : w6.cell? ⟨w.heap.size, 1, none⟩ = some (.int .i64 l0) := (block_cell hf0 1 _ rfl).1
        have ke2 : w6.cell? ⟨w.heap.size, 2, none⟩ = some (.int .i64 k0) := (block_cell hf0 2 _ rfl).1
        have ke3 : w6.cell? ⟨w.heap.size, 3, none⟩ = some (.int .i64 b00) := (block_cell hf0 3 _ rfl).1
        have ke4 : w6.cell? ⟨w.heap.size, 4, none⟩ = some (.int .i64 b10) := (block_cell hf0 4 _ rfl).1
        have ke5 : w6.cell? ⟨w.heap.size, 5, none⟩ = some (.int .i64 b20) := (block_cell hf0 5 _ rfl).1
        have ke6 : w6.cell? ⟨w.heap.size, 6, none⟩ = some (.int .i64 b30) := (block_cell hf0 6 _ rfl).1
        have ke7 : w6.cell? ⟨w.heap.size, 7, none⟩ = some (.int .i64 b40) := (block_cell hf0 7 _ rfl).1
        have ke8 : w6.cell? ⟨w.heap.size, 8, none⟩ = some (.int .i64 b50) := (block_cell hf0 8 _ rfl).1
        clear hf0 hb6
        go_wp2_with (first
          | ((with_reducible refine Calls.mono (frame.right_of HF0.out HR0.out _) ?_); rintro e' w7 ⟨rfl, hb7⟩; have hg7 : Below W0.heap.size W0 w7 := hg6.trans (hb7.mono hg6.size); have hf1 := HK1.out w7 hg7; have kf0 : w7.cell? ⟨w.heap.size + 1, 0, none⟩ = some (.int .i64 e1) := (block_cell hf1 0 _ rfl).1; have kf1 : w7.cell? ⟨w.heap.size + 1, 1, none⟩ = some (.int .i64 l1) := (block_cell hf1 1 _ rfl).1; have kf2 : w7.cell? ⟨w.heap.size + 1, 2, none⟩ = some (.int .i64 k1) := (block_cell hf1 2 _ rfl).1; have kf3 : w7.cell? ⟨w.heap.size + 1, 3, none⟩ = some (.int .i64 b01) := (block_cell hf1 3 _ rfl).1; have kf4 : w7.cell? ⟨w.heap.size + 1, 4, none⟩ = some (.int .i64 b11) := (block_cell hf1 4 _ rfl).1; have kf5 : w7.cell? ⟨w.heap.size + 1, 5, none⟩ = some (.int .i64 b21) := (block_cell hf1 5 _ rfl).1; have kf6 : w7.cell? ⟨w.heap.size + 1, 6, none⟩ = some (.int .i64 b31) := (block_cell hf1 6 _ rfl).1; have kf7 : w7.cell? ⟨w.heap.size + 1, 7, none⟩ = some (.int .i64 b41) := (block_cell hf1 7 _ rfl).1; have kf8 : w7.cell? ⟨w.heap.size + 1, 8, none⟩ = some (.int .i64 b51) := (block_cell hf1 8 _ rfl).1; clear hf1 hb7)
          | ((with_reducible refine Calls.mono (frame.right_of HF1.out HR1.out _) ?_); rintro e' w8 ⟨rfl, hb8⟩; have hg8 : Below W0.heap.size W0 w8 := hg7.trans (hb8.mono hg7.size); clear hb8))
        go_ret
        exact ⟨rfl, HBW.out.trans (hg8.mono (by rw [← HSZ.out]; omega))⟩
    · go_wp2_with fail
      refine Calls.mono (frame.encode_yes_of HF0.out G0.out HR0.out wc) ?_
      rintro e' w5 ⟨g5, rfl, hown5, hb5⟩
      have hg5 : Below W0.heap.size W0 w5 := HGC.out.trans (hb5.mono HGC.out.size)
      have hf1 := HK1.out w5 hg5
      have HB5 := Lib.hid hown5.bys
      have kd0 : w5.cell? ⟨w.heap.size + 1, 0, none⟩ = some (.int .i64 e1) := (block_cell hf1 0 _ rfl).1
      have kd1 : w5.cell? ⟨w.heap.size + 1, 1, none⟩ = some (.int .i64 l1) := (block_cell hf1 1 _ rfl).1
      have kd2 : w5.cell? ⟨w.heap.size + 1, 2, none⟩ = some (.int .i64 k1) := (block_cell hf1 2 _ rfl).1
      have kd3 : w5.cell? ⟨w.heap.size + 1, 3, none⟩ = some (.int .i64 b01) := (block_cell hf1 3 _ rfl).1
      have kd4 : w5.cell? ⟨w.heap.size + 1, 4, none⟩ = some (.int .i64 b11) := (block_cell hf1 4 _ rfl).1
      have kd5 : w5.cell? ⟨w.heap.size + 1, 5, none⟩ = some (.int .i64 b21) := (block_cell hf1 5 _ rfl).1
      have kd6 : w5.cell? ⟨w.heap.size + 1, 6, none⟩ = some (.int .i64 b31) := (block_cell hf1 6 _ rfl).1
      have kd7 : w5.cell? ⟨w.heap.size + 1, 7, none⟩ = some (.int .i64 b41) := (block_cell hf1 7 _ rfl).1
      have kd8 : w5.cell? ⟨w.heap.size + 1, 8, none⟩ = some (.int .i64 b51) := (block_cell hf1 8 _ rfl).1
      clear hf1 hb5 hown5
      rcases r1 with _ | _
      · go_wp2_with fail
        refine Calls.mono (frame.encode_no_of HF1.out HR1.out w5) ?_
        rintro e' w6 ⟨rfl, hb6⟩
        have hg6 : Below W0.heap.size W0 w6 := hg5.trans (hb6.mono hg5.size)
        have hf0 := HK0.out w6 hg6
        have ke0 : w6.cell? ⟨w.heap.size, 0, none⟩ = some (.int .i64 e0) := (block_cell hf0 0 _ rfl).1
        have ke1 : w6.cell? ⟨w.heap.size, 1, none⟩ = some (.int .i64 l0) := (block_cell hf0 1 _ rfl).1
        have ke2 : w6.cell? ⟨w.heap.size, 2, none⟩ = some (.int .i64 k0) := (block_cell hf0 2 _ rfl).1
        have ke3 : w6.cell? ⟨w.heap.size, 3, none⟩ = some (.int .i64 b00) := (block_cell hf0 3 _ rfl).1
        have ke4 : w6.cell? ⟨w.heap.size, 4, none⟩ = some (.int .i64 b10) := (block_cell hf0 4 _ rfl).1
        have ke5 : w6.cell? ⟨w.heap.size, 5, none⟩ = some (.int .i64 b20) := (block_cell hf0 5 _ rfl).1
        have ke6 : w6.cell? ⟨w.heap.size, 6, none⟩ = some (.int .i64 b30) := (block_cell hf0 6 _ rfl).1
        have ke7 : w6.cell? ⟨w.heap.size, 7, none⟩ = some (.int .i64 b40) := (block_cell hf0 7 _ rfl).1
        have ke8 : w6.cell? ⟨w.heap.size, 8, none⟩ = some (.int .i64 b50) := (block_cell hf0 8 _ rfl).1
        clear hf0 hb6
        go_wp2_with (first
          | ((with_reducible refine Calls.mono (frame.right_of HF0.out HR0.out _) ?_); rintro e' w7 ⟨rfl, hb7⟩; have hg7 : Below W0.heap.size W0 w7 := hg6.trans (hb7.mono hg6.size); have hf1 := HK1.out w7 hg7; have kf0 : w7.cell? ⟨w.heap.size + 1, 0, none⟩ = some (.int .i64 e1) := (block_cell hf1 0 _ rfl).1; have kf1 : w7.cell? ⟨w.heap.size + 1, 1, none⟩ = some (.int .i64 l1) := (block_cell hf1 1 _ rfl).1; have kf2 : w7.cell? ⟨w.heap.size + 1, 2, none⟩ = some (.int .i64 k1) := (block_cell hf1 2 _ rfl).1; have kf3 : w7.cell? ⟨w.heap.size + 1, 3, none⟩ = some (.int .i64 b01) := (block_cell hf1 3 _ rfl).1; have kf4 : w7.cell? ⟨w.heap.size + 1, 4, none⟩ = some (.int .i64 b11) := (block_cell hf1 4 _ rfl).1; have kf5 : w7.cell? ⟨w.heap.size + 1, 5, none⟩ = some (.int .i64 b21) := (block_cell hf1 5 _ rfl).1; have kf6 : w7.cell? ⟨w.heap.size + 1, 6, none⟩ = some (.int .i64 b31) := (block_cell hf1 6 _ rfl).1; have kf7 : w7.cell? ⟨w.heap.size + 1, 7, none⟩ = some (.int .i64 b41) := (block_cell hf1 7 _ rfl).1; have kf8 : w7.cell? ⟨w.heap.size + 1, 8, none⟩ = some (.int .i64 b51) := (block_cell hf1 8 _ rfl).1; clear hf1 hb7)
          | ((with_reducible refine Calls.mono (frame.right_of HF1.out HR1.out _) ?_); rintro e' w8 ⟨rfl, hb8⟩; have hg8 : Below W0.heap.size W0 w8 := hg7.trans (hb8.mono hg7.size); clear hb8))
        go_ret
        exact ⟨rfl, HBW.out.trans (hg8.mono (by rw [← HSZ.out]; omega))⟩
      · go_wp2_with fail
        refine Calls.mono (frame.encode_yes_of HF1.out G1.out HR1.out w5) ?_
        rintro e' w6 ⟨g6, rfl, hown6, hb6⟩
        have hg6 : Below W0.heap.size W0 w6 := hg5.trans (hb6.mono hg5.size)
        have HB5' := Lib.hid (HB5.out.below hb6)
        have HB6 := Lib.hid hown6.bys
        have hsz56 : w5.heap.size ≤ w6.heap.size := hb6.size
        have hd6 : frame.dec (frame.enc f0) = (0, ⟨e0, l0, k0, b00, b10, b20, b30, b40, b50⟩) := by rw [HF0.out]; exact frame.dec_enc f0 G0.out HR0.out
        have HD6 := Lib.hid hd6
        clear hb6 hown6 hd6
        go_wp2_with fail
        refine Calls.mono (frame.decode_of w6 HB5'.out hsz56 (frame.enc_len f0) (by omega) (by omega) HD6.out) ?_
        rintro e' w7 ⟨rfl, hb7⟩
        have hg7 : Below W0.heap.size W0 w7 := hg6.trans (hb7.mono hg6.size)
        have hg8 : Below W0.heap.size W0 (w7.alloc (.cells #[.int .i64 e0, .int .i64 l0, .int .i64 k0, .int .i64 b00, .int .i64 b10, .int .i64 b20, .int .i64 b30, .int .i64 b40, .int .i64 b50] 24)) := hg7.alloc hg7.size _
        have hf0 := HK0.out _ hg8
        have hf1 := HK1.out _ hg8
        have kg0 : (w7.alloc (.cells #[.int .i64 e0, .int .i64 l0, .int .i64 k0, .int .i64 b00, .int .i64 b10, .int .i64 b20, .int .i64 b30, .int .i64 b40, .int .i64 b50] 24)).cell? ⟨w.heap.size, 0, none⟩ = some (.int .i64 e0) := (block_cell hf0 0 _ rfl).1
        have kg1 : (w7.alloc (.cells #[.int .i64 e0, .int .i64 l0, .int .i64 k0, .int .i64 b00, .int .i64 b10, .int .i64 b20, .int .i64 b30, .int .i64 b40, .int .i64 b50] 24)).cell? ⟨w.heap.size, 1, none⟩ = some (.int .i64 l0) := (block_cell hf0 1 _ rfl).1
        have kg2 : (w7.alloc (.cells #[.int .i64 e0, .int .i64 l0, .int .i64 k0, .int .i64 b00, .int .i64 b10, .int .i64 b20, .int .i64 b30, .int .i64 b40, .int .i64 b50] 24)).cell? ⟨w.heap.size, 2, none⟩ = some (.int .i64 k0) := (block_cell hf0 2 _ rfl).1
        have kg3 : (w7.alloc (.cells #[.int .i64 e0, .int .i64 l0, .int .i64 k0, .int .i64 b00, .int .i64 b10, .int .i64 b20, .int .i64 b30, .int .i64 b40, .int .i64 b50] 24)).cell? ⟨w.heap.size, 3, none⟩ = some (.int .i64 b00) := (block_cell hf0 3 _ rfl).1
        have kg4 : (w7.alloc (.cells #[.int .i64 e0, .int .i64 l0, .int .i64 k0, .int .i64 b00, .int .i64 b10, .int .i64 b20, .int .i64 b30, .int .i64 b40, .int .i64 b50] 24)).cell? ⟨w.heap.size, 4, none⟩ = some (.int .i64 b10) := (block_cell hf0 4 _ rfl).1
        have kg5 : (w7.alloc (.cells #[.int .i64 e0, .int .i64 l0, .int .i64 k0, .int .i64 b00, .int .i64 b10, .int .i64 b20, .int .i64 b30, .int .i64 b40, .int .i64 b50] 24)).cell? ⟨w.heap.size, 5, none⟩ = some (.int .i64 b20) := (block_cell hf0 5 _ rfl).1
        have kg6 : (w7.alloc (.cells #[.int .i64 e0, .int .i64 l0, .int .i64 k0, .int .i64 b00, .int .i64 b10, .int .i64 b20, .int .i64 b30, .int .i64 b40, .int .i64 b50] 24)).cell? ⟨w.heap.size, 6, none⟩ = some (.int .i64 b30) := (block_cell hf0 6 _ rfl).1
        have kg7 : (w7.alloc (.cells #[.int .i64 e0, .int .i64 l0, .int .i64 k0, .int .i64 b00, .int .i64 b10, .int .i64 b20, .int .i64 b30, .int .i64 b40, .int .i64 b50] 24)).cell? ⟨w.heap.size, 7, none⟩ = some (.int .i64 b40) := (block_cell hf0 7 _ rfl).1
        have kg8 : (w7.alloc (.cells #[.int .i64 e0, .int .i64 l0, .int .i64 k0, .int .i64 b00, .int .i64 b10, .int .i64 b20, .int .i64 b30, .int .i64 b40, .int .i64 b50] 24)).cell? ⟨w.heap.size, 8, none⟩ = some (.int .i64 b50) := (block_cell hf0 8 _ rfl).1
        have kh0 : (w7.alloc (.cells #[.int .i64 e0, .int .i64 l0, .int .i64 k0, .int .i64 b00, .int .i64 b10, .int .i64 b20, .int .i64 b30, .int .i64 b40, .int .i64 b50] 24)).cell? ⟨w.heap.size + 1, 0, none⟩ = some (.int .i64 e1) := (block_cell hf1 0 _ rfl).1
        have kh1 : (w7.alloc (.cells #[.int .i64 e0, .int .i64 l0, .int .i64 k0, .int .i64 b00, .int .i64 b10, .int .i64 b20, .int .i64 b30, .int .i64 b40, .int .i64 b50] 24)).cell? ⟨w.heap.size + 1, 1, none⟩ = some (.int .i64 l1) := (block_cell hf1 1 _ rfl).1
        have kh2 : (w7.alloc (.cells #[.int .i64 e0, .int .i64 l0, .int .i64 k0, .int .i64 b00, .int .i64 b10, .int .i64 b20, .int .i64 b30, .int .i64 b40, .int .i64 b50] 24)).cell? ⟨w.heap.size + 1, 2, none⟩ = some (.int .i64 k1) := (block_cell hf1 2 _ rfl).1
        have kh3 : (w7.alloc (.cells #[.int .i64 e0, .int .i64 l0, .int .i64 k0, .int .i64 b00, .int .i64 b10, .int .i64 b20, .int .i64 b30, .int .i64 b40, .int .i64 b50] 24)).cell? ⟨w.heap.size + 1, 3, none⟩ = some (.int .i64 b01) := (block_cell hf1 3 _ rfl).1
        have kh4 : (w7.alloc (.cells #[.int .i64 e0, .int .i64 l0, .int .i64 k0, .int .i64 b00, .int .i64 b10, .int .i64 b20, .int .i64 b30, .int .i64 b40, .int .i64 b50] 24)).cell? ⟨w.heap.size + 1, 4, none⟩ = some (.int .i64 b11) := (block_cell hf1 4 _ rfl).1
        have kh5 : (w7.alloc (.cells #[.int .i64 e0, .int .i64 l0, .int .i64 k0, .int .i64 b00, .int .i64 b10, .int .i64 b20, .int .i64 b30, .int .i64 b40, .int .i64 b50] 24)).cell? ⟨w.heap.size + 1, 5, none⟩ = some (.int .i64 b21) := (block_cell hf1 5 _ rfl).1
        have kh6 : (w7.alloc (.cells #[.int .i64 e0, .int .i64 l0, .int .i64 k0, .int .i64 b00, .int .i64 b10, .int .i64 b20, .int .i64 b30, .int .i64 b40, .int .i64 b50] 24)).cell? ⟨w.heap.size + 1, 6, none⟩ = some (.int .i64 b31) := (block_cell hf1 6 _ rfl).1
        have kh7 : (w7.alloc (.cells #[.int .i64 e0, .int .i64 l0, .int .i64 k0, .int .i64 b00, .int .i64 b10, .int .i64 b20, .int .i64 b30, .int .i64 b40, .int .i64 b50] 24)).cell? ⟨w.heap.size + 1, 7, none⟩ = some (.int .i64 b41) := (block_cell hf1 7 _ rfl).1
        have kh8 : (w7.alloc (.cells #[.int .i64 e0, .int .i64 l0, .int .i64 k0, .int .i64 b00, .int .i64 b10, .int .i64 b20, .int .i64 b30, .int .i64 b40, .int .i64 b50] 24)).cell? ⟨w.heap.size + 1, 8, none⟩ = some (.int .i64 b51) := (block_cell hf1 8 _ rfl).1
        have HB58 := ((HB5'.out.more hsz56).below hb7).more hb7.size
        have HB68 := (HB6.out.below hb7).more hb7.size
        obtain ⟨s5, HS5⟩ : ∃ s, Hid (strB (frame.enc f0) = s) := ⟨_, Lib.hid rfl⟩
        obtain ⟨s6, HS6⟩ : ∃ s, Hid (strB (frame.enc f1) = s) := ⟨_, Lib.hid rfl⟩
        have hs5 : (convert 25 9 (.slice (some ⟨g5, 0, none⟩) 72 72)).run Try.prog (w7.alloc (.cells #[.int .i64 e0, .int .i64 l0, .int .i64 k0, .int .i64 b00, .int .i64 b10, .int .i64 b20, .int .i64 b30, .int .i64 b40, .int .i64 b50] 24)).drew = .ok (.string s5) (w7.alloc (.cells #[.int .i64 e0, .int .i64 l0, .int .i64 k0, .int .i64 b00, .int .i64 b10, .int .i64 b20, .int .i64 b30, .int .i64 b40, .int .i64 b50] 24)).drew := run_str (P := Try.prog) (cap := 72) ((HB58.below ((Below.refl _ _).alloc (Nat.le_refl _) _)).drewN 1) (frame.enc_len f0) 25 5 9 Try.underlying25 Try.underlying5 Try.underlying9 HS5.out
        have hs6 : (convert 25 9 (.slice (some ⟨g6, 0, none⟩) 72 72)).run Try.prog (w7.alloc (.cells #[.int .i64 e0, .int .i64 l0, .int .i64 k0, .int .i64 b00, .int .i64 b10, .int .i64 b20, .int .i64 b30, .int .i64 b40, .int .i64 b50] 24)).drew = .ok (.string s6) (w7.alloc (.cells #[.int .i64 e0, .int .i64 l0, .int .i64 k0, .int .i64 b00, .int .i64 b10, .int .i64 b20, .int .i64 b30, .int .i64 b40, .int .i64 b50] 24)).drew := run_str (P := Try.prog) (cap := 72) ((HB68.below ((Below.refl _ _).alloc (Nat.le_refl _) _)).drewN 1) (frame.enc_len f1) 25 5 9 Try.underlying25 Try.underlying5 Try.underlying9 HS6.out
        obtain ⟨q, HQ⟩ : ∃ q, Hid (decide (f0 = f1) = q) := ⟨_, Lib.hid rfl⟩
        have heq0 : ∀ W, (Op.equalIn 10000 24 (.agg #[.int .i64 e0, .int .i64 l0, .int .i64 k0, .int .i64 b00, .int .i64 b10, .int .i64 b20, .int .i64 b30, .int .i64 b40, .int .i64 b50]) (.agg #[.int .i64 e0, .int .i64 l0, .int .i64 k0, .int .i64 b00, .int .i64 b10, .int .i64 b20, .int .i64 b30, .int .i64 b40, .int .i64 b50])).run Try.prog W = .ok true W := fun W => frame.eq_of HF0.out HF0.out G0.out G0.out (decide_eq_true rfl) W
        have heq1 : ∀ W, (Op.equalIn 10000 24 (.agg #[.int .i64 e0, .int .i64 l0, .int .i64 k0, .int .i64 b00, .int .i64 b10, .int .i64 b20, .int .i64 b30, .int .i64 b40, .int .i64 b50]) (.agg #[.int .i64 e1, .int .i64 l1, .int .i64 k1, .int .i64 b01, .int .i64 b11, .int .i64 b21, .int .i64 b31, .int .i64 b41, .int .i64 b51])).run Try.prog W = .ok q W := fun W => frame.eq_of HF0.out HF1.out G0.out G1.out HQ.out W
        have hbe : (s5.toList == s6.toList) = q := by
          rw [← HQ.out, ← HS5.out, ← HS6.out, Bool.eq_iff_iff]
          simp only [beq_iff_eq, decide_eq_true_eq]
          rw [strB_eq (frame.enc_lt f0) (frame.enc_lt f1)]
          exact frame.enc_inj G0.out G1.out HR0.out HR1.out
        clear hf0 hf1 HB58 HB68 hb7
        rcases q with _ | _
        all_goals
          go_wp2_with fail
          go_region
          go_wp2
          go_ret
          exact ⟨rfl, HBW.out.trans (hg8.drew.mono (by have := HSZ.out; omega))⟩

set_option maxRecDepth 100000 in
theorem lifted (os : Os) (started : os.Started) (H : Type) (enc : TypeId × Value → H) :
    ReturnsInHanded {} Try.checked os 4 .any (Rows.frameBackSpec.pre6 enc Try.prog Try.f4 Rows.frameBackRow.domain false) (Rows.frameBackSpec.post enc Try.prog Try.f4 false true false false) := by
  refine returnsInHanded_of_change (C := Try.checked) own started (by kernel_rfl) Try.func4
    (ChangeSpec.witness6 (enc := enc) (C := Try.checked) false ⟨#[], #[.agg #[.int .i64 0, .int .i64 0, .int .i64 0, .int .i64 0, .int .i64 0, .int .i64 0, .int .i64 0, .int .i64 0, .int .i64 0], .agg #[.int .i64 0, .int .i64 0, .int .i64 0, .int .i64 0, .int .i64 0, .int .i64 0, .int .i64 0, .int .i64 0, .int .i64 0], .slice none 0 0], []⟩ 8 (by kernel_rfl) (by kernel_rfl) (by kernel_rfl) (by kernel_rfl)) ?_
  intro W base args ds gs before hval0 hW hcnd _
  have hval : ∀ (j : Nat) t v, Try.f4.params[j]? = some t → args[j]? = some v → Value.okWide Try.prog W .any base t v := hval0
  have hW' := hW
  obtain ⟨p, q, hA0, hV, rfl, hfz, hnd⟩ := hW
  have hA : DataW.TrodAll enc Try.prog W 0 (fun _ => true) true Try.f4.params.toList args.toList ds p := hA0
  rw [Try.params4] at hA hval
  obtain ⟨v0, vs0, d0, ds0, p0_, q0, hargs, rfl, rfl, h0, r0⟩ := trodAll_cons hA
  obtain ⟨v1, vs1, d1, ds1, p1_, q1, rfl, rfl, rfl, h1, r1⟩ := trodAll_cons r0
  obtain ⟨v2, vs2, d2, ds2, p2_, q2, rfl, rfl, rfl, h2, r2⟩ := trodAll_cons r1
  obtain ⟨rfl, rfl, rfl⟩ := trodAll_nil r2
  obtain rfl : args = #[v0, v1, v2] := by cases args; simp_all
  obtain ⟨rfl, rfl⟩ := trodVars_none hV
  obtain ⟨cs0, rfl, hsz0⟩ := okWide_struct Try.underlying24 (hval 0 24 v0 rfl rfl)
  have k0 := h0
  have lt0 : ∀ x ∈ p0_, x.block < W.heap.size := by obtain ⟨m, hm⟩ := k0; exact DataW.trod_lt m _ _ _ hm
  obtain ⟨x0, w0⟩ := of_arg of_frame k0
  obtain ⟨cs1, rfl, hsz1⟩ := okWide_struct Try.underlying24 (hval 1 24 v1 rfl rfl)
  have k1 := h1
  have lt1 : ∀ x ∈ p1_, x.block < W.heap.size := by obtain ⟨m, hm⟩ := k1; exact DataW.trod_lt m _ _ _ hm
  obtain ⟨x1, w1⟩ := of_arg of_frame k1
  obtain ⟨p2, n2, c2, rfl⟩ := okWide_slice Try.underlying25 (hval 2 25 v2 rfl rfl)
  have k2 := h2
  have lt2 : ∀ x ∈ p2_, x.block < W.heap.size := by obtain ⟨m, hm⟩ := k2; exact DataW.trod_lt m _ _ _ hm
  obtain ⟨x2, w2⟩ := of_arg (of_bytes Try.underlying25 Try.underlying5 (by kernel_rfl)) k2
  clear hA0 hval0
  refine (walk cs0 x0 cs1 x1 p2 n2 c2 x2 W w0 w1 w2).mono fun e W' ⟨he, bel⟩ => ?_
  subst he
  exact ⟨_, rfl, _, _, _, [], _, [], hW', trodAll_mk1 (shut_bool Try.underlying4 _), (trodAll_cons_mk (Below.trod laidOut (by kernel_rfl) (of_decide_eq_true (by kernel_rfl)) k0 bel lt0) (trodAll_cons_mk (Below.trod laidOut (by kernel_rfl) (of_decide_eq_true (by kernel_rfl)) k1 bel lt1) (trodAll_cons_mk (Below.trod laidOut (by kernel_rfl) (of_decide_eq_true (by kernel_rfl)) k2 bel lt2) trodAll_mk0))), rfl, bel.frame _, fun h => by cases h⟩

theorem over : Rows.frameBackRow.holds Try.pinned (OpenSpec.ofChange Rows.frameBackSpec) :=
  OpenClaim.holds_of_wide 4 Try.f4 rfl rfl rfl rfl rfl rfl rfl ⟨rfl, rfl, rfl, rfl, rfl⟩ rfl rfl rfl rfl rfl (by kernel_rfl) Try.func4 (by kernel_rfl)
    (of_decide_eq_true (by kernel_rfl)) (by unfold Func.isWrapper; first | (rw [if_pos (by decide +kernel)]; kernel_rfl) | (rw [if_neg (by decide +kernel)]; exact ⟨rfl, rfl⟩))
    (fun os started H enc _ => lifted os started H enc)

theorem proved : Rows.FrameBackSaid := over
#print axioms proved
end Go.Proofs.Ytnfdoiaidkkkeaa.frameBack
