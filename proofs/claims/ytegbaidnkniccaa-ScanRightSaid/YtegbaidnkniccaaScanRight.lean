/-
  PROVED: the law ScanRight answers true at every input, and leaves what it was given as it was.
  CONDITIONS: none.
-/
import Derived.Test.YtegbaidnkniccaaRows
import Derived.WalkKit
import Derived.ProofKit
import Derived.OpenShut
import Derived.ShutString
import Derived.ChangeOld
import Derived.Below
import Derived.Test.YtegbaidnkniccaaAwake05
import Derived.Test.YtegbaidnkniccaaStr
import Derived.Deep.DeepCutAuto
import Derived.Deep.DrawnRows
namespace Go.Proofs.Ytegbaidnkniccaa.scanRight
open Go.ChangeShapes Go.WideShapes Go.ChangeAt Go.RowKit
open Go.ChangeMaps (open_string shut_string)
set_option linter.unusedVariables false

theorem own : ownKnob Try.prog.godebug = none := by kernel_rfl
theorem laidOut : laidOutB Try.prog = true := by kernel_rfl

attribute [local go_sem] undef
attribute [local go_sem ↓] Go.wp_at_zero Go.wp_at_succ

set_option maxRecDepth 100000 in
set_option maxHeartbeats 4000000 in
theorem walk (p0 : Option Addr) (n0 c0 : Nat) (x0 : List (FrameD)) (p1 : Option Addr) (n1 c1 : Nat) (x1 : List Nat) (a2 : Int) (a3 : Int) (w : World) (w0 : (rdSlice rdFrame 9) w (Lt w.heap.size) [.slice p0 n0 c0] x0) (w1 : rdBytes w (Lt w.heap.size) [.slice p1 n1 c1] x1) (w2 : (Lit.int .i64 a2).wf = true) (w3 : (Lit.int .i64 a3).wf = true) :
    Calls Try.prog 3 #[.slice p0 n0 c0, .slice p1 n1 c1, .int .i64 a2, .int .i64 a3] w fun e w' => e = .returned (.bool true) ∧ Below w.heap.size w w' := by
  obtain ⟨hf, hfn, hfc, hfm⟩ := scan.frs_of w0
  obtain ⟨hx, hxn, hxc, hxm⟩ := scan.bys_of w1
  have HF : Hid (∀ W, Below w.heap.size w W → Frs W w.heap.size p0 x0) := Lib.hid (fun W hb => hf.below hb)
  have HX : Hid (∀ W, Below w.heap.size w W → Bys W w.heap.size p1 x1) := Lib.hid (fun W hb => hx.below hb)
  have HFN := Lib.hid hfn
  have HXN := Lib.hid hxn
  clear hf hx hfn hxn w0 w1
  by_cases h20 : 20 < n0
  · go_enter Try.func3, Try.ntmps3
    go_wp2_with ((with_reducible refine (scan.awake_any _).mono ?_); rintro e w1 ⟨rfl, hb1⟩)
    go_ret
    exact ⟨rfl, hb1⟩
  by_cases h1500 : 1500 < n1
  · go_enter Try.func3, Try.ntmps3
    go_wp2_with ((with_reducible refine (scan.awake_any _).mono ?_); rintro e w1 ⟨rfl, hb1⟩)
    go_ret
    exact ⟨rfl, hb1⟩
  have hn0 : n0 ≤ 20 := by omega
  have hn1 : n1 ≤ 1500 := by omega
  clear h20 h1500
  obtain ⟨N, HNN⟩ : ∃ N, Hid (72 * n0 = N) := ⟨_, Lib.hid rfl⟩
  obtain ⟨lz, HLZ⟩ : ∃ lz, Hid (scan.all x1 a2 a3 = lz) := ⟨_, Lib.hid rfl⟩
  obtain ⟨k, HK⟩ : ∃ k, Hid (lz.length = k) := ⟨_, Lib.hid rfl⟩
  have hk : k ≤ 1500 := by
    have := scan.all_len x1 a2 a3
    rw [HLZ.out, HK.out, HXN.out] at this
    omega
  obtain ⟨q, HQ⟩ : ∃ q, Hid (scan.row x0 a2 a3 = q) := ⟨_, Lib.hid rfl⟩
  obtain ⟨s, HS⟩ : ∃ s, Hid (strB (scan.put x0) = s) := ⟨_, Lib.hid rfl⟩
  have HYL : Hid ((scan.put x0).length = N) := Lib.hid (by rw [scan.put_len, HFN.out, HNN.out])
  go_enter Try.func3, Try.ntmps3
  go_wp2_with ((with_reducible refine (scan.awake_any _).mono ?_); rintro e w1 ⟨rfl, hb1⟩)
  go_loopw [9, 10] (fun s9 i wr => ∃ (j : Nat) (r : Bool), j ≤ n0 ∧ i = .int .i64 j ∧ s9 = .bool r ∧ Hid (scan.allRight (x0.take j) = r) ∧ Below w.heap.size w wr) (fun _ i _ => n0 - (intOf i).toNat)
  case atStart => exact ⟨0, true, Nat.zero_le _, rfl, rfl, Lib.hid rfl, hb1⟩
  case round =>
    obtain ⟨j, r, hj, rfl, rfl, HA, hbr⟩ := hrel
    by_cases hlt : j < n0
    · obtain ⟨b, off, e, l, kd, b0, b1, b2, b3, b4, b5, rfl, hb, HE, y0, y1, y2, y3, y4, y5, y6, y7, y8, HFI⟩ := (HF.out wr hbr).at_ (j := j) (by rw [HFN.out]; exact hlt)
      obtain ⟨f, HFF⟩ : ∃ f, Hid ((⟨e, l, kd, b0, b1, b2, b3, b4, b5⟩ : frame.Fr) = f) := ⟨_, Lib.hid rfl⟩
      obtain ⟨t, Ht⟩ : ∃ t, Hid (frame.right f = t) := ⟨_, Lib.hid rfl⟩
      have HC := Lib.hid (fun W => frame.right_of HFF.out Ht.out W)
      have HT : Hid (scan.allRight (x0.take (j + 1)) = (r && t)) := Lib.hid (by rw [scan.right_step (f := f) (by rw [HE.out, HFF.out]), HA.out, Ht.out])
      have hsz := hbr.size
      have hblt : b < wr.heap.size := by omega
      have HW := Lib.hid hbr
      rcases r with _ | _
      · go_wp2
        go_roundw
        case rel => exact ⟨j + 1, false, by omega, by go_num, rfl, HT, HW.out⟩
        case measure => first | (simp [intOf]; done) | (simp [intOf]; omega)
      · go_wp2_with ((with_reducible refine Calls.mono (HC.out _) ?_); rintro e1 w2 ⟨rfl, hb2⟩)
        go_roundw
        case rel => exact ⟨j + 1, t, by omega, by go_num, rfl, HT, HW.out.trans (hb2.mono hsz)⟩
        case measure => first | (simp [intOf]; done) | (simp [intOf]; omega)
    · have HR : Hid (scan.allRight x0 = r) := Lib.hid (by have := HA.out; rwa [List.take_of_length_le (by rw [HFN.out]; omega)] at this)
      obtain rfl : n0 = j := by omega
      have HW := Lib.hid hbr
      clear hlt HA
      rcases r with _ | _
      · go_wp2_with fail
        refine Calls.mono (scan.put_no_of wr (HF.out wr HW.out) HW.out.size HFN.out (by omega) HR.out) ?_
        rintro e w2 ⟨rfl, hb2⟩
        have HA2 : Hid (Below w.heap.size w w2) := Lib.hid (HW.out.trans (hb2.mono HW.out.size))
        clear hb2 hbr
        go_upto_region 11 with fail
        go_cut [71] (fun s71 wx => s71 = .bool false ∧ Below w2.heap.size w2 wx)
        case first =>
          -- NO BEGINS
          refine wp_region_any (by kernel_rfl) ?_
          change wpAny _ _ _ _ _ _ _ (World.drew _)
          refine wpAny_take (i := 0) (v := .bool false) rfl (by kernel_rfl) (by kernel_rfl) (by kernel_rfl) (fun _ _ _ h => h) (Or.inl ⟨by kernel_rfl, ?h0⟩) ?_
          case h0 => (intro w; go_simp)
          go_simp
          refine wpAny_take (i := 1) (v := .bool false) rfl (by kernel_rfl) (by kernel_rfl) (by kernel_rfl) (fun _ _ _ h => h) (Or.inl ⟨by kernel_rfl, ?h1⟩) ?_
          case h1 => (intro w; go_simp)
          go_simp
          refine wpAny_take (i := 2) (v := undef) rfl (by kernel_rfl) (by kernel_rfl) (by kernel_rfl) (fun _ _ _ h => h) (Or.inr ⟨by kernel_rfl, rfl⟩) ?_
          go_simp
          refine wpAny_take (i := 3) (v := undef) rfl (by kernel_rfl) (by kernel_rfl) (by kernel_rfl) (fun _ _ _ h => h) (Or.inr ⟨by kernel_rfl, rfl⟩) ?_
          go_simp
          refine wpAny_take (i := 4) (v := undef) rfl (by kernel_rfl) (by kernel_rfl) (by kernel_rfl) (fun _ _ _ h => h) (Or.inr ⟨by kernel_rfl, rfl⟩) ?_
          go_simp
          refine wpAny_take (i := 5) (v := undef) rfl (by kernel_rfl) (by kernel_rfl) (by kernel_rfl) (fun _ _ _ h => h) (Or.inr ⟨by kernel_rfl, rfl⟩) ?_
          go_simp
          refine wpAny_take (i := 6) (v := undef) rfl (by kernel_rfl) (by kernel_rfl) (by kernel_rfl) (fun _ _ _ h => h) (Or.inr ⟨by kernel_rfl, rfl⟩) ?_
          go_simp
          refine wpAny_take (i := 7) (v := undef) rfl (by kernel_rfl) (by kernel_rfl) (by kernel_rfl) (fun _ _ _ h => h) (Or.inr ⟨by kernel_rfl, rfl⟩) ?_
          go_simp
          refine wpAny_take (i := 8) (v := undef) rfl (by kernel_rfl) (by kernel_rfl) (by kernel_rfl) (fun _ _ _ h => h) (Or.inr ⟨by kernel_rfl, rfl⟩) ?_
          go_simp
          refine wpAny_take (i := 9) (v := undef) rfl (by kernel_rfl) (by kernel_rfl) (by kernel_rfl) (fun _ _ _ h => h) (Or.inr ⟨by kernel_rfl, rfl⟩) ?_
          go_simp
          refine wpAny_take (i := 10) (v := undef) rfl (by kernel_rfl) (by kernel_rfl) (by kernel_rfl) (fun _ _ _ h => h) (Or.inr ⟨by kernel_rfl, rfl⟩) ?_
          go_simp
          refine wpAny_take (i := 11) (v := undef) rfl (by kernel_rfl) (by kernel_rfl) (by kernel_rfl) (fun _ _ _ h => h) (Or.inr ⟨by kernel_rfl, rfl⟩) ?_
          go_simp
          refine wpAny_take (i := 12) (v := .bool false) rfl (by kernel_rfl) (by kernel_rfl) (by kernel_rfl) (fun _ _ _ h => h) (Or.inl ⟨by kernel_rfl, ?h12⟩) ?_
          case h12 => (intro w; go_simp)
          go_simp
          refine wpAny_take (i := 13) (v := .bool false) rfl (by kernel_rfl) (by kernel_rfl) (by kernel_rfl) (fun _ _ _ h => h) (Or.inl ⟨by kernel_rfl, ?h13⟩) ?_
          case h13 => (intro w; go_simp)
          go_simp
          refine wpAny_take (i := 14) (v := .bool false) rfl (by kernel_rfl) (by kernel_rfl) (by kernel_rfl) (fun _ _ _ h => h) (Or.inl ⟨by kernel_rfl, ?h14⟩) ?_
          case h14 => (intro w; go_simp)
          go_simp
          refine wpAny_take (i := 15) (v := .bool true) rfl (by kernel_rfl) (by kernel_rfl) (by kernel_rfl) (fun _ _ _ h => h) (Or.inl ⟨by kernel_rfl, ?h15⟩) ?_
          case h15 => (intro w; go_simp)
          go_simp
          refine wpAny_take (i := 16) (v := .bool true) rfl (by kernel_rfl) (by kernel_rfl) (by kernel_rfl) (fun _ _ _ h => h) (Or.inl ⟨by kernel_rfl, ?h16⟩) ?_
          case h16 => (intro w; go_simp)
          go_simp
          refine wpAny_take (i := 17) (v := .int .i64 1) rfl (by kernel_rfl) (by kernel_rfl) (by kernel_rfl) (fun _ _ _ h => h) (Or.inl ⟨by kernel_rfl, ?h17⟩) ?_
          case h17 => (intro w; go_simp)
          go_simp
          refine wpAny_take (i := 18) (v := .bool false) rfl (by kernel_rfl) (by kernel_rfl) (by kernel_rfl) (fun _ _ _ h => h) (Or.inl ⟨by kernel_rfl, ?h18⟩) ?_
          case h18 => (intro w; go_simp)
          go_simp
          refine wpAny_take (i := 19) (v := .bool false) rfl (by kernel_rfl) (by kernel_rfl) (by kernel_rfl) (fun _ _ _ h => h) (Or.inl ⟨by kernel_rfl, ?h19⟩) ?_
          case h19 => (intro w; go_simp)
          go_simp
          refine wpAny_take (i := 20) (v := .slice none 0 0) rfl (by kernel_rfl) (by kernel_rfl) (by kernel_rfl) (fun _ _ _ h => h) (Or.inl ⟨by kernel_rfl, ?h20⟩) ?_
          case h20 => (intro w; go_simp)
          go_simp
          refine wpAny_take (i := 21) (v := .int .i64 0) rfl (by kernel_rfl) (by kernel_rfl) (by kernel_rfl) (fun _ _ _ h => h) (Or.inl ⟨by kernel_rfl, ?h21⟩) ?_
          case h21 => (intro w; go_simp)
          go_simp
          refine wpAny_take (i := 22) (v := .bool false) rfl (by kernel_rfl) (by kernel_rfl) (by kernel_rfl) (fun _ _ _ h => h) (Or.inl ⟨by kernel_rfl, ?h22⟩) ?_
          case h22 => (intro w; go_simp)
          go_simp
          refine wpAny_take (i := 23) (v := .bool false) rfl (by kernel_rfl) (by kernel_rfl) (by kernel_rfl) (fun _ _ _ h => h) (Or.inl ⟨by kernel_rfl, ?h23⟩) ?_
          case h23 => (intro w; go_simp)
          go_simp
          refine wpAny_take (i := 24) (v := .bool false) rfl (by kernel_rfl) (by kernel_rfl) (by kernel_rfl) (fun _ _ _ h => h) (Or.inl ⟨by kernel_rfl, ?h24⟩) ?_
          case h24 => (intro w; go_simp)
          go_simp
          refine wpAny_take (i := 25) (v := .bool false) rfl (by kernel_rfl) (by kernel_rfl) (by kernel_rfl) (fun _ _ _ h => h) (Or.inl ⟨by kernel_rfl, ?h25⟩) ?_
          case h25 => (intro w; go_simp)
          go_simp
          refine wpAny_done (by kernel_rfl) ?_ _
          go_wp2_with fail
          go_meet
          exact ⟨rfl, (Below.refl _ _).drew⟩
          -- NO ENDS
        case rest =>
          obtain ⟨rfl, hbc⟩ := hcut
          have HBC : Hid (Below w.heap.size w wc) := Lib.hid (HA2.out.trans (hbc.mono HA2.out.size))
          clear hbc
          go_wp2_with fail
          refine Calls.mono (scan.scan_of wc (HX.out wc HBC.out) HBC.out.size HXN.out hxc hxm (by omega) HLZ.out HK.out) ?_
          rintro e w5 ⟨A5, c5, rfl, hown5, hb5⟩
          have HB5 : Hid (Below w.heap.size w w5) := Lib.hid (HBC.out.trans (hb5.mono HBC.out.size))
          have HO5 : Hid (∀ W, Below w5.heap.size w5 W → Frs W w5.heap.size A5 lz) := Lib.hid (fun W hb => hown5.frs.below hb)
          clear hb5 hown5
          go_wp2_with fail
          refine Calls.mono (scan.rscan_of w5 (HX.out w5 HB5.out) HB5.out.size HXN.out hxc hxm (by omega) HLZ.out HK.out) ?_
          rintro e w6 ⟨A6, c6, rfl, hown6, hb6⟩
          have HB56 := Lib.hid hb6
          have HB6 : Hid (Below w.heap.size w w6) := Lib.hid (HB5.out.trans (hb6.mono HB5.out.size))
          have HO6 : Hid (∀ W, Below w6.heap.size w6 W → Frs W w6.heap.size A6 lz) := Lib.hid (fun W hb => hown6.frs.below hb)
          clear hb6 hown6
          go_wp2_with fail
          refine Calls.mono (scan.row_of w6 (HF.out w6 HB6.out) HB6.out.size HFN.out (by omega) HQ.out) ?_
          rintro e w7 ⟨rfl, hb7⟩
          have HB7 : Hid (Below w6.heap.size w6 w7) := Lib.hid hb7
          have HB7w : Hid (Below w.heap.size w w7) := Lib.hid (HB6.out.trans (hb7.mono HB6.out.size))
          clear hb7
          go_wp2_with fail
          refine Calls.mono (scan.rrow_of w7 (HF.out w7 HB7w.out) HB7w.out.size HFN.out (by omega) HQ.out) ?_
          rintro e w8 ⟨rfl, hb8⟩
          have HB8 : Hid (Below w6.heap.size w6 w8) := Lib.hid (HB7.out.trans (hb8.mono HB7.out.size))
          have HB8w : Hid (Below w.heap.size w w8) := Lib.hid (HB7w.out.trans (hb8.mono HB7w.out.size))
          have HB85 : Hid (Below w5.heap.size w5 w8) := Lib.hid (HB56.out.trans (HB8.out.mono HB56.out.size))
          clear hb8
          go_wp2_with fail
          refine Calls.mono (scan.same_of w8 (HO5.out w8 HB85.out) HB85.out.size HK.out (by omega) (HO6.out w8 HB8.out) HB8.out.size HK.out (by omega) (r := true) (decide_eq_true rfl)) ?_
          rintro e w9 ⟨rfl, hb9⟩
          have HB9 : Hid (Below w.heap.size w w9) := Lib.hid (HB8w.out.trans (hb9.mono HB8w.out.size))
          clear hb9
          go_wp2
          go_ret
          exact ⟨rfl, HB9.out⟩
      · go_wp2_with fail
        refine Calls.mono (scan.put_of wr (HF.out wr HW.out) HW.out.size HFN.out (by omega) HR.out HNN.out) ?_
        rintro e w2 ⟨A2, c2, rfl, hown2, hb2⟩
        have HA2 : Hid (Below w.heap.size w w2) := Lib.hid (HW.out.trans (hb2.mono HW.out.size))
        have HY : Hid (∀ W, Below w2.heap.size w2 W → Bys W w2.heap.size A2 (scan.put x0)) := Lib.hid (fun W hb => hown2.bys.below hb)
        clear hb2 hbr hown2
        go_upto_region 11 with fail
        go_cut [71] (fun s71 wx => s71 = .bool false ∧ Below w2.heap.size w2 wx)
        case first =>
          -- YES BEGINS
          refine wp_region_any (by kernel_rfl) ?_
          change wpAny _ _ _ _ _ _ _ (World.drew _)
          obtain ⟨W3, hW3⟩ : ∃ x, x = w2.drew := ⟨_, rfl⟩
          rw [← hW3]
          have HB3 : Hid (Below w2.heap.size w2 W3) := Lib.hid (by rw [hW3]; exact (Below.refl _ _).drew)
          have HA3 : Hid (Below w.heap.size w W3) := Lib.hid (HA2.out.trans (HB3.out.mono HA2.out.size))
          clear hW3
          refine wpAny_take (i := 0) (v := .bool true) rfl (by kernel_rfl) (by kernel_rfl) (by kernel_rfl) (fun _ _ _ h => h) (Or.inl ⟨by kernel_rfl, ?h0⟩) ?_
          case h0 => (intro w; go_simp)
          go_simp
          refine wpAny_take (i := 1) (v := .bool true) rfl (by kernel_rfl) (by kernel_rfl) (by kernel_rfl) (fun _ _ _ h => h) (Or.inl ⟨by kernel_rfl, ?h1⟩) ?_
          case h1 => (intro w; go_simp)
          go_simp
          refine wpAny_take (i := 2) (v := .int .i64 0) rfl (by kernel_rfl) (by kernel_rfl) (by kernel_rfl) (fun _ _ _ h => h) (Or.inl ⟨by kernel_rfl, ?h2⟩) ?_
          case h2 => (intro w; go_simp)
          go_simp
          refine wpAny_take (i := 3) (v := .bool false) rfl (by kernel_rfl) (by kernel_rfl) (by kernel_rfl) (fun _ _ _ h => h) (Or.inl ⟨by kernel_rfl, ?h3⟩) ?_
          case h3 => (intro w; go_simp)
          go_simp
          refine wpAny_take (i := 4) (v := .bool false) rfl (by kernel_rfl) (by kernel_rfl) (by kernel_rfl) (fun _ _ _ h => h) (Or.inl ⟨by kernel_rfl, ?h4⟩) ?_
          case h4 => (intro w; go_simp)
          go_simp
          refine wpAny_take (i := 5) (v := .slice A2 N c2) rfl (by kernel_rfl) (by kernel_rfl) (by kernel_rfl) (fun _ _ _ h => h) (Or.inl ⟨by kernel_rfl, ?h5⟩) ?_
          case h5 => (intro w; go_simp)
          go_simp
          refine wpAny_take (i := 7) (v := .slice p0 n0 c0) rfl (by kernel_rfl) (by kernel_rfl) (by kernel_rfl) (fun _ _ _ h => h) (Or.inl ⟨by kernel_rfl, ?h7⟩) ?_
          case h7 => (intro w; go_simp)
          go_simp
          refine wpAny_ready (rs := [6, 8]) (by kernel_rfl) (by simp) ?_
          refine AllReady.cons rfl (fun K hK => ?_) (AllReady.cons rfl (fun K hK => ?_) AllReady.nil)
          · have hs := run_str (P := Try.prog) (cap := c2) (HY.out W3 HB3.out) HYL.out 23 5 9 Try.underlying23 Try.underlying5 Try.underlying9 HS.out
            go_simp
            refine hK _ _ ?_
            clear hK K
            clear hs
            refine wpAny_ready (rs := [8]) (by kernel_rfl) (by simp) ?_
            refine AllReady.cons rfl (fun K hK => ?_) AllReady.nil
            go_simp
            go_wp2_with (refine Calls.mono (scan.rput_of W3 (HF.out W3 HA3.out) HA3.out.size HFN.out (by omega) HNN.out) ?_; rintro e5 W4 ⟨A5, c5, rfl, hown5, hb5⟩)
            have HB4 : Hid (Below w2.heap.size w2 W4) := Lib.hid (HB3.out.trans (hb5.mono HB3.out.size))
            have HA4 : Hid (Below w.heap.size w W4) := Lib.hid (HA2.out.trans (HB4.out.mono HA2.out.size))
            have HZ : Hid (Bys W4 W4.heap.size A5 (scan.put x0)) := Lib.hid (OwnBys.bys hown5)
            clear hb5 hown5
            refine wpAny_ready (rs := [9]) (by kernel_rfl) (by simp) ?_
            refine AllReady.cons rfl (fun K hK => ?_) AllReady.nil
            have hs := run_str (P := Try.prog) (cap := c5) HZ.out HYL.out 23 5 9 Try.underlying23 Try.underlying5 Try.underlying9 HS.out
            go_simp
            refine hK _ _ ?_
            clear hK K
            clear hs
            refine wpAny_take (i := 10) (v := .bool false) rfl (by kernel_rfl) (by kernel_rfl) (by kernel_rfl) (fun _ _ _ h => h) (Or.inl ⟨by kernel_rfl, ?h10⟩) ?_
            case h10 => (intro w; go_simp)
            go_simp
            refine wpAny_take (i := 11) (v := .bool false) rfl (by kernel_rfl) (by kernel_rfl) (by kernel_rfl) (fun _ _ _ h => h) (Or.inl ⟨by kernel_rfl, ?h11⟩) ?_
            case h11 => (intro w; go_simp)
            go_simp
            refine wpAny_take (i := 12) (v := .bool false) rfl (by kernel_rfl) (by kernel_rfl) (by kernel_rfl) (fun _ _ _ h => h) (Or.inl ⟨by kernel_rfl, ?h12⟩) ?_
            case h12 => (intro w; go_simp)
            go_simp
            refine wpAny_take (i := 13) (v := .bool false) rfl (by kernel_rfl) (by kernel_rfl) (by kernel_rfl) (fun _ _ _ h => h) (Or.inl ⟨by kernel_rfl, ?h13⟩) ?_
            case h13 => (intro w; go_simp)
            go_simp
            refine wpAny_take (i := 14) (v := .bool true) rfl (by kernel_rfl) (by kernel_rfl) (by kernel_rfl) (fun _ _ _ h => h) (Or.inl ⟨by kernel_rfl, ?h14⟩) ?_
            case h14 => (intro w; go_simp)
            go_simp
            refine wpAny_take (i := 15) (v := .bool false) rfl (by kernel_rfl) (by kernel_rfl) (by kernel_rfl) (fun _ _ _ h => h) (Or.inl ⟨by kernel_rfl, ?h15⟩) ?_
            case h15 => (intro w; go_simp)
            go_simp
            refine wpAny_take (i := 16) (v := .bool false) rfl (by kernel_rfl) (by kernel_rfl) (by kernel_rfl) (fun _ _ _ h => h) (Or.inl ⟨by kernel_rfl, ?h16⟩) ?_
            case h16 => (intro w; go_simp)
            go_simp
            refine wpAny_take (i := 17) (v := undef) rfl (by kernel_rfl) (by kernel_rfl) (by kernel_rfl) (fun _ _ _ h => h) (Or.inr ⟨by kernel_rfl, rfl⟩) ?_
            go_simp
            refine wpAny_take (i := 18) (v := undef) rfl (by kernel_rfl) (by kernel_rfl) (by kernel_rfl) (fun _ _ _ h => h) (Or.inr ⟨by kernel_rfl, rfl⟩) ?_
            go_simp
            refine wpAny_take (i := 19) (v := undef) rfl (by kernel_rfl) (by kernel_rfl) (by kernel_rfl) (fun _ _ _ h => h) (Or.inr ⟨by kernel_rfl, rfl⟩) ?_
            go_simp
            refine wpAny_take (i := 20) (v := undef) rfl (by kernel_rfl) (by kernel_rfl) (by kernel_rfl) (fun _ _ _ h => h) (Or.inr ⟨by kernel_rfl, rfl⟩) ?_
            go_simp
            refine wpAny_take (i := 21) (v := undef) rfl (by kernel_rfl) (by kernel_rfl) (by kernel_rfl) (fun _ _ _ h => h) (Or.inr ⟨by kernel_rfl, rfl⟩) ?_
            go_simp
            refine wpAny_take (i := 22) (v := undef) rfl (by kernel_rfl) (by kernel_rfl) (by kernel_rfl) (fun _ _ _ h => h) (Or.inr ⟨by kernel_rfl, rfl⟩) ?_
            go_simp
            refine wpAny_take (i := 23) (v := undef) rfl (by kernel_rfl) (by kernel_rfl) (by kernel_rfl) (fun _ _ _ h => h) (Or.inr ⟨by kernel_rfl, rfl⟩) ?_
            go_simp
            refine wpAny_take (i := 24) (v := .bool false) rfl (by kernel_rfl) (by kernel_rfl) (by kernel_rfl) (fun _ _ _ h => h) (Or.inl ⟨by kernel_rfl, ?h24⟩) ?_
            case h24 => (intro w; go_simp)
            go_simp
            refine wpAny_take (i := 25) (v := .bool false) rfl (by kernel_rfl) (by kernel_rfl) (by kernel_rfl) (fun _ _ _ h => h) (Or.inl ⟨by kernel_rfl, ?h25⟩) ?_
            case h25 => (intro w; go_simp)
            go_simp
            refine wpAny_done (by kernel_rfl) ?_ _
            go_wp2_with fail
            go_meet
            exact ⟨rfl, HB4.out⟩
          · go_simp
            go_wp2_with (refine Calls.mono (scan.rput_of W3 (HF.out W3 HA3.out) HA3.out.size HFN.out (by omega) HNN.out) ?_; rintro e5 W4 ⟨A5, c5, rfl, hown5, hb5⟩)
            have HB4 : Hid (Below w2.heap.size w2 W4) := Lib.hid (HB3.out.trans (hb5.mono HB3.out.size))
            have HA4 : Hid (Below w.heap.size w W4) := Lib.hid (HA2.out.trans (HB4.out.mono HA2.out.size))
            have HZ : Hid (Bys W4 W4.heap.size A5 (scan.put x0)) := Lib.hid (OwnBys.bys hown5)
            clear hb5 hown5
            refine wpAny_ready (rs := [6, 9]) (by kernel_rfl) (by simp) ?_
            refine AllReady.cons rfl (fun K hK => ?_) (AllReady.cons rfl (fun K hK => ?_) AllReady.nil)
            · have hs := run_str (P := Try.prog) (cap := c2) (HY.out W4 HB4.out) HYL.out 23 5 9 Try.underlying23 Try.underlying5 Try.underlying9 HS.out
              go_simp
              refine hK _ _ ?_
              clear hK K
              clear hs
              refine wpAny_ready (rs := [9]) (by kernel_rfl) (by simp) ?_
              refine AllReady.cons rfl (fun K hK => ?_) AllReady.nil
              have hs := run_str (P := Try.prog) (cap := c5) HZ.out HYL.out 23 5 9 Try.underlying23 Try.underlying5 Try.underlying9 HS.out
              go_simp
              refine hK _ _ ?_
              clear hK K
              clear hs
              refine wpAny_take (i := 10) (v := .bool false) rfl (by kernel_rfl) (by kernel_rfl) (by kernel_rfl) (fun _ _ _ h => h) (Or.inl ⟨by kernel_rfl, ?h10⟩) ?_
              case h10 => (intro w; go_simp)
              go_simp
              refine wpAny_take (i := 11) (v := .bool false) rfl (by kernel_rfl) (by kernel_rfl) (by kernel_rfl) (fun _ _ _ h => h) (Or.inl ⟨by kernel_rfl, ?h11⟩) ?_
              case h11 => (intro w; go_simp)
              go_simp
              refine wpAny_take (i := 12) (v := .bool false) rfl (by kernel_rfl) (by kernel_rfl) (by kernel_rfl) (fun _ _ _ h => h) (Or.inl ⟨by kernel_rfl, ?h12⟩) ?_
              case h12 => (intro w; go_simp)
              go_simp
              refine wpAny_take (i := 13) (v := .bool false) rfl (by kernel_rfl) (by kernel_rfl) (by kernel_rfl) (fun _ _ _ h => h) (Or.inl ⟨by kernel_rfl, ?h13⟩) ?_
              case h13 => (intro w; go_simp)
              go_simp
              refine wpAny_take (i := 14) (v := .bool true) rfl (by kernel_rfl) (by kernel_rfl) (by kernel_rfl) (fun _ _ _ h => h) (Or.inl ⟨by kernel_rfl, ?h14⟩) ?_
              case h14 => (intro w; go_simp)
              go_simp
              refine wpAny_take (i := 15) (v := .bool false) rfl (by kernel_rfl) (by kernel_rfl) (by kernel_rfl) (fun _ _ _ h => h) (Or.inl ⟨by kernel_rfl, ?h15⟩) ?_
              case h15 => (intro w; go_simp)
              go_simp
              refine wpAny_take (i := 16) (v := .bool false) rfl (by kernel_rfl) (by kernel_rfl) (by kernel_rfl) (fun _ _ _ h => h) (Or.inl ⟨by kernel_rfl, ?h16⟩) ?_
              case h16 => (intro w; go_simp)
              go_simp
              refine wpAny_take (i := 17) (v := undef) rfl (by kernel_rfl) (by kernel_rfl) (by kernel_rfl) (fun _ _ _ h => h) (Or.inr ⟨by kernel_rfl, rfl⟩) ?_
              go_simp
              refine wpAny_take (i := 18) (v := undef) rfl (by kernel_rfl) (by kernel_rfl) (by kernel_rfl) (fun _ _ _ h => h) (Or.inr ⟨by kernel_rfl, rfl⟩) ?_
              go_simp
              refine wpAny_take (i := 19) (v := undef) rfl (by kernel_rfl) (by kernel_rfl) (by kernel_rfl) (fun _ _ _ h => h) (Or.inr ⟨by kernel_rfl, rfl⟩) ?_
              go_simp
              refine wpAny_take (i := 20) (v := undef) rfl (by kernel_rfl) (by kernel_rfl) (by kernel_rfl) (fun _ _ _ h => h) (Or.inr ⟨by kernel_rfl, rfl⟩) ?_
              go_simp
              refine wpAny_take (i := 21) (v := undef) rfl (by kernel_rfl) (by kernel_rfl) (by kernel_rfl) (fun _ _ _ h => h) (Or.inr ⟨by kernel_rfl, rfl⟩) ?_
              go_simp
              refine wpAny_take (i := 22) (v := undef) rfl (by kernel_rfl) (by kernel_rfl) (by kernel_rfl) (fun _ _ _ h => h) (Or.inr ⟨by kernel_rfl, rfl⟩) ?_
              go_simp
              refine wpAny_take (i := 23) (v := undef) rfl (by kernel_rfl) (by kernel_rfl) (by kernel_rfl) (fun _ _ _ h => h) (Or.inr ⟨by kernel_rfl, rfl⟩) ?_
              go_simp
              refine wpAny_take (i := 24) (v := .bool false) rfl (by kernel_rfl) (by kernel_rfl) (by kernel_rfl) (fun _ _ _ h => h) (Or.inl ⟨by kernel_rfl, ?h24⟩) ?_
              case h24 => (intro w; go_simp)
              go_simp
              refine wpAny_take (i := 25) (v := .bool false) rfl (by kernel_rfl) (by kernel_rfl) (by kernel_rfl) (fun _ _ _ h => h) (Or.inl ⟨by kernel_rfl, ?h25⟩) ?_
              case h25 => (intro w; go_simp)
              go_simp
              refine wpAny_done (by kernel_rfl) ?_ _
              go_wp2_with fail
              go_meet
              exact ⟨rfl, HB4.out⟩
            · have hs := run_str (P := Try.prog) (cap := c5) HZ.out HYL.out 23 5 9 Try.underlying23 Try.underlying5 Try.underlying9 HS.out
              go_simp
              refine hK _ _ ?_
              clear hK K
              clear hs
              refine wpAny_ready (rs := [6]) (by kernel_rfl) (by simp) ?_
              refine AllReady.cons rfl (fun K hK => ?_) AllReady.nil
              have hs := run_str (P := Try.prog) (cap := c2) (HY.out W4 HB4.out) HYL.out 23 5 9 Try.underlying23 Try.underlying5 Try.underlying9 HS.out
              go_simp
              refine hK _ _ ?_
              clear hK K
              clear hs
              refine wpAny_take (i := 10) (v := .bool false) rfl (by kernel_rfl) (by kernel_rfl) (by kernel_rfl) (fun _ _ _ h => h) (Or.inl ⟨by kernel_rfl, ?h10⟩) ?_
              case h10 => (intro w; go_simp)
              go_simp
              refine wpAny_take (i := 11) (v := .bool false) rfl (by kernel_rfl) (by kernel_rfl) (by kernel_rfl) (fun _ _ _ h => h) (Or.inl ⟨by kernel_rfl, ?h11⟩) ?_
              case h11 => (intro w; go_simp)
              go_simp
              refine wpAny_take (i := 12) (v := .bool false) rfl (by kernel_rfl) (by kernel_rfl) (by kernel_rfl) (fun _ _ _ h => h) (Or.inl ⟨by kernel_rfl, ?h12⟩) ?_
              case h12 => (intro w; go_simp)
              go_simp
              refine wpAny_take (i := 13) (v := .bool false) rfl (by kernel_rfl) (by kernel_rfl) (by kernel_rfl) (fun _ _ _ h => h) (Or.inl ⟨by kernel_rfl, ?h13⟩) ?_
              case h13 => (intro w; go_simp)
              go_simp
              refine wpAny_take (i := 14) (v := .bool true) rfl (by kernel_rfl) (by kernel_rfl) (by kernel_rfl) (fun _ _ _ h => h) (Or.inl ⟨by kernel_rfl, ?h14⟩) ?_
              case h14 => (intro w; go_simp)
              go_simp
              refine wpAny_take (i := 15) (v := .bool false) rfl (by kernel_rfl) (by kernel_rfl) (by kernel_rfl) (fun _ _ _ h => h) (Or.inl ⟨by kernel_rfl, ?h15⟩) ?_
              case h15 => (intro w; go_simp)
              go_simp
              refine wpAny_take (i := 16) (v := .bool false) rfl (by kernel_rfl) (by kernel_rfl) (by kernel_rfl) (fun _ _ _ h => h) (Or.inl ⟨by kernel_rfl, ?h16⟩) ?_
              case h16 => (intro w; go_simp)
              go_simp
              refine wpAny_take (i := 17) (v := undef) rfl (by kernel_rfl) (by kernel_rfl) (by kernel_rfl) (fun _ _ _ h => h) (Or.inr ⟨by kernel_rfl, rfl⟩) ?_
              go_simp
              refine wpAny_take (i := 18) (v := undef) rfl (by kernel_rfl) (by kernel_rfl) (by kernel_rfl) (fun _ _ _ h => h) (Or.inr ⟨by kernel_rfl, rfl⟩) ?_
              go_simp
              refine wpAny_take (i := 19) (v := undef) rfl (by kernel_rfl) (by kernel_rfl) (by kernel_rfl) (fun _ _ _ h => h) (Or.inr ⟨by kernel_rfl, rfl⟩) ?_
              go_simp
              refine wpAny_take (i := 20) (v := undef) rfl (by kernel_rfl) (by kernel_rfl) (by kernel_rfl) (fun _ _ _ h => h) (Or.inr ⟨by kernel_rfl, rfl⟩) ?_
              go_simp
              refine wpAny_take (i := 21) (v := undef) rfl (by kernel_rfl) (by kernel_rfl) (by kernel_rfl) (fun _ _ _ h => h) (Or.inr ⟨by kernel_rfl, rfl⟩) ?_
              go_simp
              refine wpAny_take (i := 22) (v := undef) rfl (by kernel_rfl) (by kernel_rfl) (by kernel_rfl) (fun _ _ _ h => h) (Or.inr ⟨by kernel_rfl, rfl⟩) ?_
              go_simp
              refine wpAny_take (i := 23) (v := undef) rfl (by kernel_rfl) (by kernel_rfl) (by kernel_rfl) (fun _ _ _ h => h) (Or.inr ⟨by kernel_rfl, rfl⟩) ?_
              go_simp
              refine wpAny_take (i := 24) (v := .bool false) rfl (by kernel_rfl) (by kernel_rfl) (by kernel_rfl) (fun _ _ _ h => h) (Or.inl ⟨by kernel_rfl, ?h24⟩) ?_
              case h24 => (intro w; go_simp)
              go_simp
              refine wpAny_take (i := 25) (v := .bool false) rfl (by kernel_rfl) (by kernel_rfl) (by kernel_rfl) (fun _ _ _ h => h) (Or.inl ⟨by kernel_rfl, ?h25⟩) ?_
              case h25 => (intro w; go_simp)
              go_simp
              refine wpAny_done (by kernel_rfl) ?_ _
              go_wp2_with fail
              go_meet
              exact ⟨rfl, HB4.out⟩
          -- YES ENDS
        case rest =>
          obtain ⟨rfl, hbc⟩ := hcut
          have HBC : Hid (Below w.heap.size w wc) := Lib.hid (HA2.out.trans (hbc.mono HA2.out.size))
          clear hbc
          go_wp2_with fail
          refine Calls.mono (scan.scan_of wc (HX.out wc HBC.out) HBC.out.size HXN.out hxc hxm (by omega) HLZ.out HK.out) ?_
          rintro e w5 ⟨A5, c5, rfl, hown5, hb5⟩
          have HB5 : Hid (Below w.heap.size w w5) := Lib.hid (HBC.out.trans (hb5.mono HBC.out.size))
          have HO5 : Hid (∀ W, Below w5.heap.size w5 W → Frs W w5.heap.size A5 lz) := Lib.hid (fun W hb => hown5.frs.below hb)
          clear hb5 hown5
          go_wp2_with fail
          refine Calls.mono (scan.rscan_of w5 (HX.out w5 HB5.out) HB5.out.size HXN.out hxc hxm (by omega) HLZ.out HK.out) ?_
          rintro e w6 ⟨A6, c6, rfl, hown6, hb6⟩
          have HB56 := Lib.hid hb6
          have HB6 : Hid (Below w.heap.size w w6) := Lib.hid (HB5.out.trans (hb6.mono HB5.out.size))
          have HO6 : Hid (∀ W, Below w6.heap.size w6 W → Frs W w6.heap.size A6 lz) := Lib.hid (fun W hb => hown6.frs.below hb)
          clear hb6 hown6
          go_wp2_with fail
          refine Calls.mono (scan.row_of w6 (HF.out w6 HB6.out) HB6.out.size HFN.out (by omega) HQ.out) ?_
          rintro e w7 ⟨rfl, hb7⟩
          have HB7 : Hid (Below w6.heap.size w6 w7) := Lib.hid hb7
          have HB7w : Hid (Below w.heap.size w w7) := Lib.hid (HB6.out.trans (hb7.mono HB6.out.size))
          clear hb7
          go_wp2_with fail
          refine Calls.mono (scan.rrow_of w7 (HF.out w7 HB7w.out) HB7w.out.size HFN.out (by omega) HQ.out) ?_
          rintro e w8 ⟨rfl, hb8⟩
          have HB8 : Hid (Below w6.heap.size w6 w8) := Lib.hid (HB7.out.trans (hb8.mono HB7.out.size))
          have HB8w : Hid (Below w.heap.size w w8) := Lib.hid (HB7w.out.trans (hb8.mono HB7w.out.size))
          have HB85 : Hid (Below w5.heap.size w5 w8) := Lib.hid (HB56.out.trans (HB8.out.mono HB56.out.size))
          clear hb8
          go_wp2_with fail
          refine Calls.mono (scan.same_of w8 (HO5.out w8 HB85.out) HB85.out.size HK.out (by omega) (HO6.out w8 HB8.out) HB8.out.size HK.out (by omega) (r := true) (decide_eq_true rfl)) ?_
          rintro e w9 ⟨rfl, hb9⟩
          have HB9 : Hid (Below w.heap.size w w9) := Lib.hid (HB8w.out.trans (hb9.mono HB8w.out.size))
          clear hb9
          go_wp2
          go_ret
          exact ⟨rfl, HB9.out⟩

set_option maxRecDepth 100000 in
theorem lifted (os : Os) (started : os.Started) (H : Type) (enc : TypeId × Value → H) :
    ReturnsInHanded {} Try.checked os 3 .any (Rows.scanRightSpec.pre6 enc Try.prog Try.f3 Rows.scanRightRow.domain false) (Rows.scanRightSpec.post enc Try.prog Try.f3 false true false false) := by
  refine returnsInHanded_of_change (C := Try.checked) own started (by kernel_rfl) Try.func3
    (ChangeSpec.witness6 (enc := enc) (C := Try.checked) false ⟨#[], #[.slice none 0 0, .slice none 0 0, .int .i64 0, .int .i64 0], []⟩ 8 (by kernel_rfl) (by kernel_rfl) (by kernel_rfl) (by kernel_rfl)) ?_
  intro W base args ds gs before hval0 hW hcnd _
  have hval : ∀ (j : Nat) t v, Try.f3.params[j]? = some t → args[j]? = some v → Value.okWide Try.prog W .any base t v := hval0
  have hW' := hW
  obtain ⟨p, q, hA0, hV, rfl, hfz, hnd⟩ := hW
  have hA : DataW.TrodAll enc Try.prog W 0 (fun _ => true) true Try.f3.params.toList args.toList ds p := hA0
  rw [Try.params3] at hA hval
  obtain ⟨v0, vs0, d0, ds0, p0_, q0, hargs, rfl, rfl, h0, r0⟩ := trodAll_cons hA
  obtain ⟨v1, vs1, d1, ds1, p1_, q1, rfl, rfl, rfl, h1, r1⟩ := trodAll_cons r0
  obtain ⟨v2, vs2, d2, ds2, p2_, q2, rfl, rfl, rfl, h2, r2⟩ := trodAll_cons r1
  obtain ⟨v3, vs3, d3, ds3, p3_, q3, rfl, rfl, rfl, h3, r3⟩ := trodAll_cons r2
  obtain ⟨rfl, rfl, rfl⟩ := trodAll_nil r3
  obtain rfl : args = #[v0, v1, v2, v3] := by cases args; simp_all
  obtain ⟨rfl, rfl⟩ := trodVars_none hV
  obtain ⟨p0, n0, c0, rfl⟩ := okWide_slice Try.underlying22 (hval 0 22 v0 rfl rfl)
  have k0 := h0
  have lt0 : ∀ x ∈ p0_, x.block < W.heap.size := by obtain ⟨m, hm⟩ := k0; exact DataW.trod_lt m _ _ _ hm
  obtain ⟨x0, w0⟩ := of_arg (of_slice (size := 9) of_frame Try.underlying22 (by kernel_rfl) (by decide)) k0
  obtain ⟨p1, n1, c1, rfl⟩ := okWide_slice Try.underlying23 (hval 1 23 v1 rfl rfl)
  have k1 := h1
  have lt1 : ∀ x ∈ p1_, x.block < W.heap.size := by obtain ⟨m, hm⟩ := k1; exact DataW.trod_lt m _ _ _ hm
  obtain ⟨x1, w1⟩ := of_arg (of_bytes Try.underlying23 Try.underlying5 (by kernel_rfl)) k1
  obtain ⟨a2, rfl, rfl, rfl, w2⟩ := open_int Try.underlying2 (hval 2 2 v2 rfl rfl) h2
  obtain ⟨a3, rfl, rfl, rfl, w3⟩ := open_int Try.underlying2 (hval 3 2 v3 rfl rfl) h3
  clear hA0 hval0
  refine (walk p0 n0 c0 x0 p1 n1 c1 x1 a2 a3 W w0 w1 w2 w3).mono fun e W' ⟨he, bel⟩ => ?_
  subst he
  exact ⟨_, rfl, _, _, _, [], _, [], hW', trodAll_mk1 (shut_bool Try.underlying4 _), (trodAll_cons_mk (Below.trod laidOut (by kernel_rfl) (of_decide_eq_true (by kernel_rfl)) k0 bel lt0) (trodAll_cons_mk (Below.trod laidOut (by kernel_rfl) (of_decide_eq_true (by kernel_rfl)) k1 bel lt1) (trodAll_cons_mk (shut_int Try.underlying2 w2) (trodAll_cons_mk (shut_int Try.underlying2 w3) trodAll_mk0)))), rfl, bel.frame _, fun h => by cases h⟩

theorem over : Rows.scanRightRow.holds Try.pinned (OpenSpec.ofChange Rows.scanRightSpec) :=
  OpenClaim.holds_of_wide 3 Try.f3 rfl rfl rfl rfl rfl rfl rfl ⟨rfl, rfl, rfl, rfl, rfl⟩ rfl rfl rfl rfl rfl (by kernel_rfl) Try.func3 (by kernel_rfl)
    (of_decide_eq_true (by kernel_rfl)) (by unfold Func.isWrapper; first | (rw [if_pos (by decide +kernel)]; kernel_rfl) | (rw [if_neg (by decide +kernel)]; exact ⟨rfl, rfl⟩))
    (fun os started H enc _ => lifted os started H enc)

theorem proved : Rows.ScanRightSaid := over
#print axioms proved
end Go.Proofs.Ytegbaidnkniccaa.scanRight
