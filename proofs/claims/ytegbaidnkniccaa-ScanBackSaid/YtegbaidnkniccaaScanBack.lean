/-
  PROVED: the law ScanBack answers true at every input, and leaves what it was given as it was.
  CONDITIONS: none.
-/
import Derived.Test.YtegbaidnkniccaaRows
import Derived.WalkKit
import Derived.ProofKit
import Derived.OpenShut
import Derived.ShutString
import Derived.ChangeOld
import Derived.Below
import Derived.Test.YtegbaidnkniccaaAwake05
import Derived.Test.YtegbaidnkniccaaStr
import Derived.Deep.DeepCutAuto
import Derived.Deep.DrawnRows
namespace Go.Proofs.Ytegbaidnkniccaa.scanBack
open Go.ChangeShapes Go.WideShapes Go.ChangeAt Go.RowKit
open Go.ChangeMaps (open_string shut_string)
set_option linter.unusedVariables false

theorem own : ownKnob Try.prog.godebug = none := by kernel_rfl
theorem laidOut : laidOutB Try.prog = true := by kernel_rfl

attribute [local go_sem] undef
attribute [local go_sem ↓] Go.wp_at_zero Go.wp_at_succ

set_option maxRecDepth 100000 in
set_option maxHeartbeats 4000000 in
theorem walk (p0 : Option Addr) (n0 c0 : Nat) (x0 : List (FrameD)) (a1 : Int) (p2 : Option Addr) (n2 c2 : Nat) (x2 : List Nat) (a3 : Int) (a4 : Int) (w : World) (w0 : (rdSlice rdFrame 9) w (Lt w.heap.size) [.slice p0 n0 c0] x0) (w1 : (Lit.int .u16 a1).wf = true) (w2 : rdBytes w (Lt w.heap.size) [.slice p2 n2 c2] x2) (w3 : (Lit.int .i64 a3).wf = true) (w4 : (Lit.int .i64 a4).wf = true) :
    Calls Try.prog 4 #[.slice p0 n0 c0, .int .u16 a1, .slice p2 n2 c2, .int .i64 a3, .int .i64 a4] w fun e w' => e = .returned (.bool true) ∧ Below w.heap.size w w' := by
  obtain ⟨hf, hfn, hfc, hfm⟩ := scan.frs_of w0
  obtain ⟨hx, hxn, hxc, hxm⟩ := scan.bys_of w2
  obtain ⟨u, rfl, hu⟩ := nat_of_u16 w1
  have HFI := Lib.hid (Frs.fine hf)
  have HLT := Lib.hid hx.lt
  have HF : Hid (∀ W, Below w.heap.size w W → Frs W w.heap.size p0 x0) := Lib.hid (fun W hb => hf.below hb)
  have HX : Hid (∀ W, Below w.heap.size w W → Bys W w.heap.size p2 x2) := Lib.hid (fun W hb => hx.below hb)
  have HFN := Lib.hid hfn
  have HXN := Lib.hid hxn
  clear hf hx hfn hxn w0 w1 w2 w3 w4
  by_cases h20 : 20 < n0
  · go_enter Try.func4, Try.ntmps4
    go_wp2_with ((with_reducible refine (scan.awake_any _).mono ?_); rintro e w1 ⟨rfl, hb1⟩)
    go_ret
    exact ⟨rfl, hb1⟩
  by_cases h1500 : 1500 < n2
  · go_enter Try.func4, Try.ntmps4
    go_wp2_with ((with_reducible refine (scan.awake_any _).mono ?_); rintro e w1 ⟨rfl, hb1⟩)
    go_ret
    exact ⟨rfl, hb1⟩
  have hn0 : n0 ≤ 20 := by omega
  have hn2 : n2 ≤ 1500 := by omega
  clear h20 h1500
  obtain ⟨N, HNN⟩ : ∃ N, Hid (72 * n0 = N) := ⟨_, Lib.hid rfl⟩
  obtain ⟨lz, HLZ⟩ : ∃ lz, Hid (scan.all x2 a3 a4 = lz) := ⟨_, Lib.hid rfl⟩
  obtain ⟨k, HK⟩ : ∃ k, Hid (lz.length = k) := ⟨_, Lib.hid rfl⟩
  obtain ⟨N2, HN2⟩ : ∃ N2, Hid (72 * k = N2) := ⟨_, Lib.hid rfl⟩
  have hk72 : 72 * k ≤ n2 := by
    have := scan.all_len x2 a3 a4
    rw [HLZ.out, HK.out, HXN.out] at this
    exact this
  have hk : k ≤ 1500 := by omega
  have hk2 : (k : Int) * 72 ≤ (n2 : Int) := by omega
  have hkd : decide ((n2 : Int) < (k : Int) * 72) = false := by simp; omega
  have HRW : Hid (scan.row lz a3 a4 = true) := Lib.hid (by rw [← HLZ.out]; exact (scan.all_row x2 a3 a4 HLT.out).1)
  have HPT : Hid (scan.put lz = x2.take N2) := Lib.hid (by rw [← HN2.out, ← HK.out, ← HLZ.out]; exact (scan.all_row x2 a3 a4 HLT.out).2)
  have HYL : Hid ((scan.put lz).length = N2) := Lib.hid (by rw [scan.put_len, HK.out, HN2.out])
  obtain ⟨q, HQ⟩ : ∃ q, Hid (scan.row x0 a3 a4 = q) := ⟨_, Lib.hid rfl⟩
  obtain ⟨s, HS⟩ : ∃ s, Hid (strB (scan.put lz) = s) := ⟨_, Lib.hid rfl⟩
  have hinfb : Hid ((Try.prog.info? 5).map (fun i => (i.zero, i.size, i.bytes)) = some (some (.int .u8 0), 1, 1)) := Lib.hid (by kernel_rfl)
  have hinff : Hid ((Try.prog.info? 28).map (fun i => (i.zero, i.size, i.bytes)) = some (some (.agg #[.int .i64 0, .int .i64 0, .int .i64 0, .int .i64 0, .int .i64 0, .int .i64 0, .int .i64 0, .int .i64 0, .int .i64 0]), 9, 72)) := Lib.hid (by kernel_rfl)
  have hsl : ∀ W, (Instr.slice 23 (.slice p2 n2 c2) none (some (.int .i64 ((k : Int) * 72))) none).run Try.prog W = .ok (.slice p2 N2 c2) W := fun W => scan.run_cut_to 23 5 1 1 _ Try.underlying23 hinfb.out p2 n2 c2 N2 _ (by have := HN2.out; omega) (by have := HN2.out; omega) W
  go_enter Try.func4, Try.ntmps4
  go_wp2_with ((with_reducible refine (scan.awake_any _).mono ?_); rintro e w1 ⟨rfl, hb1⟩)
  have HB1 := Lib.hid hb1
  clear hb1
  refine Calls.mono (scan.scan_of w1 (HX.out w1 HB1.out) HB1.out.size HXN.out hxc hxm (by omega) HLZ.out HK.out) ?_
  rintro e w2 ⟨A2, c3, rfl, hown2, hb2⟩
  have HB2 : Hid (Below w.heap.size w w2) := Lib.hid (HB1.out.trans (hb2.mono HB1.out.size))
  have HO2 : Hid (∀ W, Below w2.heap.size w2 W → Frs W w2.heap.size A2 lz) := Lib.hid (fun W hb => hown2.frs.below hb)
  clear hb2 hown2
  go_wp2_with fail
  refine Calls.mono (scan.row_of w2 (HO2.out w2 (Below.refl _ _)) (Nat.le_refl _) HK.out (by omega) HRW.out) ?_
  rintro e w3 ⟨rfl, hb3⟩
  have HB23 := Lib.hid hb3
  have HB3 : Hid (Below w.heap.size w w3) := Lib.hid (HB2.out.trans (hb3.mono HB2.out.size))
  clear hb3
  go_wp2_with fail
  refine Calls.mono (scan.put_of w3 (HO2.out w3 HB23.out) HB23.out.size HK.out (by omega) (scan.row_right HRW.out) HN2.out) ?_
  rintro e w4 ⟨A4, c4, rfl, hown4, hb4⟩
  have HA4 : Hid (Below w.heap.size w w4) := Lib.hid (HB3.out.trans (hb4.mono HB3.out.size))
  have HY : Hid (∀ W, Below w4.heap.size w4 W → Bys W w4.heap.size A4 (scan.put lz)) := Lib.hid (fun W hb => hown4.bys.below hb)
  clear hb4 hown4
  go_upto_region 9 with fail
  go_cut [72] (fun s72 wx => s72 = .bool false ∧ Below w4.heap.size w4 wx)
  case first =>
    -- R9 BEGINS
    refine wp_region_any (by kernel_rfl) ?_
    change wpAny _ _ _ _ _ _ _ (World.drew _)
    obtain ⟨W5, hW5⟩ : ∃ x, x = w4.drew := ⟨_, rfl⟩
    rw [← hW5]
    have HB5 : Hid (Below w4.heap.size w4 W5) := Lib.hid (by rw [hW5]; exact (Below.refl _ _).drew)
    have HA5 : Hid (Below w.heap.size w W5) := Lib.hid (HA4.out.trans (HB5.out.mono HA4.out.size))
    clear hW5
    refine wpAny_take (i := 0) (v := .int .i64 0) rfl (by kernel_rfl) (by kernel_rfl) (by kernel_rfl) (fun _ _ _ h => h) (Or.inl ⟨by kernel_rfl, ?h0⟩) ?_
    case h0 => (intro w; go_simp)
    go_simp
    refine wpAny_take (i := 1) (v := .bool false) rfl (by kernel_rfl) (by kernel_rfl) (by kernel_rfl) (fun _ _ _ h => h) (Or.inl ⟨by kernel_rfl, ?h1⟩) ?_
    case h1 => (intro w; go_simp)
    go_simp
    refine wpAny_take (i := 2) (v := .bool false) rfl (by kernel_rfl) (by kernel_rfl) (by kernel_rfl) (fun _ _ _ h => h) (Or.inl ⟨by kernel_rfl, ?h2⟩) ?_
    case h2 => (intro w; go_simp)
    go_simp
    refine wpAny_take (i := 3) (v := .slice A4 N2 c4) rfl (by kernel_rfl) (by kernel_rfl) (by kernel_rfl) (fun _ _ _ h => h) (Or.inl ⟨by kernel_rfl, ?h3⟩) ?_
    case h3 => (intro w; go_simp)
    go_simp
    refine wpAny_take (i := 5) (v := .slice p2 n2 c2) rfl (by kernel_rfl) (by kernel_rfl) (by kernel_rfl) (fun _ _ _ h => h) (Or.inl ⟨by kernel_rfl, ?h5⟩) ?_
    case h5 => (intro w; go_simp)
    go_simp
    refine wpAny_take (i := 6) (v := .int .i64 ((k : Int) * 72)) rfl (by kernel_rfl) (by kernel_rfl) (by kernel_rfl) (fun _ _ _ h => h) (Or.inl ⟨by kernel_rfl, ?h6⟩) ?_
    case h6 => (intro w; go_simp)
    go_simp
    refine wpAny_take (i := 7) (v := .slice p2 N2 c2) rfl (by kernel_rfl) (by kernel_rfl) (by kernel_rfl) (fun _ _ _ h => h) (Or.inl ⟨by kernel_rfl, ?h7⟩) ?_
    case h7 => (intro w; go_simp)
    go_simp
    refine wpAny_ready (rs := [4, 8]) (by kernel_rfl) (by simp) ?_
    refine AllReady.cons rfl (fun K hK => ?_) (AllReady.cons rfl (fun K hK => ?_) AllReady.nil)
    · have hs := run_str (P := Try.prog) (cap := c4) (HY.out W5 HB5.out) HYL.out 23 5 9 Try.underlying23 Try.underlying5 Try.underlying9 HS.out
      go_simp
      refine hK _ _ ?_
      clear hK K
      clear hs
      refine wpAny_ready (rs := [8]) (by kernel_rfl) (by simp) ?_
      refine AllReady.cons rfl (fun K hK => ?_) AllReady.nil
      have hs := run_str (P := Try.prog) (cap := c2) (by have := (HX.out W5 HA5.out).take N2; rw [← HPT.out] at this; exact this) HYL.out 23 5 9 Try.underlying23 Try.underlying5 Try.underlying9 HS.out
      go_simp
      refine hK _ _ ?_
      clear hK K
      clear hs
      refine wpAny_take (i := 9) (v := .bool false) rfl (by kernel_rfl) (by kernel_rfl) (by kernel_rfl) (fun _ _ _ h => h) (Or.inl ⟨by kernel_rfl, ?h9⟩) ?_
      case h9 => (intro w; go_simp)
      go_simp
      refine wpAny_take (i := 10) (v := .bool false) rfl (by kernel_rfl) (by kernel_rfl) (by kernel_rfl) (fun _ _ _ h => h) (Or.inl ⟨by kernel_rfl, ?h10⟩) ?_
      case h10 => (intro w; go_simp)
      go_simp
      refine wpAny_done (by kernel_rfl) ?_ _
      go_wp2_with fail
      go_meet
      exact ⟨rfl, HB5.out⟩
    · have hs := run_str (P := Try.prog) (cap := c2) (by have := (HX.out W5 HA5.out).take N2; rw [← HPT.out] at this; exact this) HYL.out 23 5 9 Try.underlying23 Try.underlying5 Try.underlying9 HS.out
      go_simp
      refine hK _ _ ?_
      clear hK K
      clear hs
      refine wpAny_ready (rs := [4]) (by kernel_rfl) (by simp) ?_
      refine AllReady.cons rfl (fun K hK => ?_) AllReady.nil
      have hs := run_str (P := Try.prog) (cap := c4) (HY.out W5 HB5.out) HYL.out 23 5 9 Try.underlying23 Try.underlying5 Try.underlying9 HS.out
      go_simp
      refine hK _ _ ?_
      clear hK K
      clear hs
      refine wpAny_take (i := 9) (v := .bool false) rfl (by kernel_rfl) (by kernel_rfl) (by kernel_rfl) (fun _ _ _ h => h) (Or.inl ⟨by kernel_rfl, ?h9⟩) ?_
      case h9 => (intro w; go_simp)
      go_simp
      refine wpAny_take (i := 10) (v := .bool false) rfl (by kernel_rfl) (by kernel_rfl) (by kernel_rfl) (fun _ _ _ h => h) (Or.inl ⟨by kernel_rfl, ?h10⟩) ?_
      case h10 => (intro w; go_simp)
      go_simp
      refine wpAny_done (by kernel_rfl) ?_ _
      go_wp2_with fail
      go_meet
      exact ⟨rfl, HB5.out⟩
    -- R9 ENDS
  case rest =>
    obtain ⟨rfl, hbc⟩ := hcut
    have HBC : Hid (Below w.heap.size w wc) := Lib.hid (HA4.out.trans (hbc.mono HA4.out.size))
    clear hbc hsl hkd hk2
    go_wp2_with fail
    refine Calls.mono (scan.row_of wc (HF.out wc HBC.out) HBC.out.size HFN.out (by omega) HQ.out) ?_
    rintro e w5 ⟨rfl, hb5⟩
    have HB5 : Hid (Below w.heap.size w w5) := Lib.hid (HBC.out.trans (hb5.mono HBC.out.size))
    clear hb5
    rcases q with _ | _
    · go_wp2
      go_ret
      exact ⟨rfl, HB5.out⟩
    · go_wp2_with fail
      refine Calls.mono (scan.put_of w5 (HF.out w5 HB5.out) HB5.out.size HFN.out (by omega) (scan.row_right HQ.out) HNN.out) ?_
      rintro e w6 ⟨A6, c6, rfl, hown6, hb6⟩
      have HB6 : Hid (Below w.heap.size w w6) := Lib.hid (HB5.out.trans (hb6.mono HB5.out.size))
      have HX6 : Hid (∀ W, Below w6.heap.size w6 W → Bys W w6.heap.size A6 (scan.put x0)) := Lib.hid (fun W hb => hown6.bys.below hb)
      have HC6 := Lib.hid (scan.own_bys_cap hown6)
      have HL6 : Hid ((scan.put x0).length = N) := Lib.hid (by rw [scan.put_len, HFN.out, HNN.out])
      clear hb6 hown6
      go_wp2_with fail
      refine Calls.mono (scan.scan_of w6 (HX6.out w6 (Below.refl _ _)) (Nat.le_refl _) HL6.out HC6.out.1 HC6.out.2 (by have := HNN.out; omega) (scan.all_put x0 a3 a4 HFI.out HQ.out) HFN.out) ?_
      rintro e w7 ⟨A7, c7, rfl, hown7, hb7⟩
      have HB67 := Lib.hid hb7
      have HB7 : Hid (Below w.heap.size w w7) := Lib.hid (HB6.out.trans (hb7.mono HB6.out.size))
      have HO7 : Hid (Frs w7 w7.heap.size A7 x0) := Lib.hid hown7.frs
      clear hb7 hown7
      have hq1 : ((n0 : Int) * 72 != (N : Int)) = false := by have := HNN.out; simp; omega
      have hq2 : ((N : Int) != (n0 : Int) * 72) = false := by have := HNN.out; simp; omega
      have hN20 : N ≤ 1440 := by have := HNN.out; omega
      obtain ⟨K, HKK⟩ : ∃ K, Hid (u % (N + 1) = K) := ⟨_, Lib.hid rfl⟩
      have hKN : K ≤ N := by rw [← HKK.out]; have := Nat.mod_lt u (show 0 < N + 1 by omega); omega
      have hKe : (u : Int) % ((N : Int) + 1) = (K : Int) := by rw [← HKK.out]; simp
      obtain ⟨D, HD⟩ : ∃ D, Hid (K / 72 = D) := ⟨_, Lib.hid rfl⟩
      have hDn : D ≤ n0 := by have := HNN.out; have := HD.out; omega
      have hDe : (K : Int) / 72 = (D : Int) := by have := HD.out; omega
      have hDq : ((D : Int) * 72 == (K : Int) - (K : Int) % 72) = true := by have := HD.out; simp; omega
      have hcut6 : ∀ W, (Instr.slice 23 (.slice A6 N c6) none (some (.int .i64 (K : Int))) none).run Try.prog W = .ok (.slice A6 K c6) W := fun W => scan.run_cut_to 23 5 1 1 _ Try.underlying23 hinfb.out A6 N c6 K _ rfl (by have := HC6.out.1; omega) W
      have hcut7 : ∀ W, (Instr.slice 22 (.slice p0 n0 c0) none (some (.int .i64 (D : Int))) none).run Try.prog W = .ok (.slice p0 D c0) W := fun W => scan.run_cut_to 22 28 9 72 _ Try.underlying22 hinff.out p0 n0 c0 D _ rfl (by omega) W
      go_wp2_with fail
      refine Calls.mono (scan.same_of w7 HO7.out (Nat.le_refl _) HFN.out (by omega) (HF.out w7 HB7.out) HB7.out.size HFN.out (by omega) (r := true) (decide_eq_true rfl)) ?_
      rintro e w8 ⟨rfl, hb8⟩
      have HB68 : Hid (Below w6.heap.size w6 w8) := Lib.hid (HB67.out.trans (hb8.mono HB67.out.size))
      have HB8 : Hid (Below w.heap.size w w8) := Lib.hid (HB7.out.trans (hb8.mono HB7.out.size))
      clear hb8
      go_wp2_with fail
      refine Calls.mono (scan.scan_of w8 ((HX6.out w8 HB68.out).take K) HB68.out.size (by rw [List.length_take, HL6.out]; omega) (by have := HC6.out.1; omega) HC6.out.2 (by omega) (scan.all_cut x0 K a3 a4 HFI.out HQ.out (by rw [HFN.out]; have := HNN.out; omega)) (k := D) (by rw [HD.out, List.length_take, HFN.out]; omega)) ?_
      rintro e w9 ⟨A9, c9, rfl, hown9, hb9⟩
      have HB9 : Hid (Below w.heap.size w w9) := Lib.hid (HB8.out.trans (hb9.mono HB8.out.size))
      have HO9 : Hid (Frs w9 w9.heap.size A9 (x0.take D)) := Lib.hid (by have := hown9.frs; rwa [HD.out] at this)
      clear hb9 hown9
      go_wp2_with fail
      refine Calls.mono (scan.same_of w9 HO9.out (Nat.le_refl _) (by rw [List.length_take, HFN.out]; omega) (by omega) ((HF.out w9 HB9.out).take D) HB9.out.size (by rw [List.length_take, HFN.out]; omega) (by omega) (r := true) (decide_eq_true rfl)) ?_
      rintro e w10 ⟨rfl, hb10⟩
      have HB10 : Hid (Below w.heap.size w w10) := Lib.hid (HB9.out.trans (hb10.mono HB9.out.size))
      clear hb10
      go_wp2
      go_ret
      exact ⟨rfl, HB10.out⟩

set_option maxRecDepth 100000 in
theorem lifted (os : Os) (started : os.Started) (H : Type) (enc : TypeId × Value → H) :
    ReturnsInHanded {} Try.checked os 4 .any (Rows.scanBackSpec.pre6 enc Try.prog Try.f4 Rows.scanBackRow.domain false) (Rows.scanBackSpec.post enc Try.prog Try.f4 false true false false) := by
  refine returnsInHanded_of_change (C := Try.checked) own started (by kernel_rfl) Try.func4
    (ChangeSpec.witness6 (enc := enc) (C := Try.checked) false ⟨#[], #[.slice none 0 0, .int .u16 0, .slice none 0 0, .int .i64 0, .int .i64 0], []⟩ 8 (by kernel_rfl) (by kernel_rfl) (by kernel_rfl) (by kernel_rfl)) ?_
  intro W base args ds gs before hval0 hW hcnd _
  have hval : ∀ (j : Nat) t v, Try.f4.params[j]? = some t → args[j]? = some v → Value.okWide Try.prog W .any base t v := hval0
  have hW' := hW
  obtain ⟨p, q, hA0, hV, rfl, hfz, hnd⟩ := hW
  have hA : DataW.TrodAll enc Try.prog W 0 (fun _ => true) true Try.f4.params.toList args.toList ds p := hA0
  rw [Try.params4] at hA hval
  obtain ⟨v0, vs0, d0, ds0, p0_, q0, hargs, rfl, rfl, h0, r0⟩ := trodAll_cons hA
  obtain ⟨v1, vs1, d1, ds1, p1_, q1, rfl, rfl, rfl, h1, r1⟩ := trodAll_cons r0
  obtain ⟨v2, vs2, d2, ds2, p2_, q2, rfl, rfl, rfl, h2, r2⟩ := trodAll_cons r1
  obtain ⟨v3, vs3, d3, ds3, p3_, q3, rfl, rfl, rfl, h3, r3⟩ := trodAll_cons r2
  obtain ⟨v4, vs4, d4, ds4, p4_, q4, rfl, rfl, rfl, h4, r4⟩ := trodAll_cons r3
  obtain ⟨rfl, rfl, rfl⟩ := trodAll_nil r4
  obtain rfl : args = #[v0, v1, v2, v3, v4] := by cases args; simp_all
  obtain ⟨rfl, rfl⟩ := trodVars_none hV
  obtain ⟨p0, n0, c0, rfl⟩ := okWide_slice Try.underlying22 (hval 0 22 v0 rfl rfl)
  have k0 := h0
  have lt0 : ∀ x ∈ p0_, x.block < W.heap.size := by obtain ⟨m, hm⟩ := k0; exact DataW.trod_lt m _ _ _ hm
  obtain ⟨x0, w0⟩ := of_arg (of_slice (size := 9) of_frame Try.underlying22 (by kernel_rfl) (by decide)) k0
  obtain ⟨a1, rfl, rfl, rfl, w1⟩ := open_int Try.underlying38 (hval 1 38 v1 rfl rfl) h1
  obtain ⟨p2, n2, c2, rfl⟩ := okWide_slice Try.underlying23 (hval 2 23 v2 rfl rfl)
  have k2 := h2
  have lt2 : ∀ x ∈ p2_, x.block < W.heap.size := by obtain ⟨m, hm⟩ := k2; exact DataW.trod_lt m _ _ _ hm
  obtain ⟨x2, w2⟩ := of_arg (of_bytes Try.underlying23 Try.underlying5 (by kernel_rfl)) k2
  obtain ⟨a3, rfl, rfl, rfl, w3⟩ := open_int Try.underlying2 (hval 3 2 v3 rfl rfl) h3
  obtain ⟨a4, rfl, rfl, rfl, w4⟩ := open_int Try.underlying2 (hval 4 2 v4 rfl rfl) h4
  clear hA0 hval0
  refine (walk p0 n0 c0 x0 a1 p2 n2 c2 x2 a3 a4 W w0 w1 w2 w3 w4).mono fun e W' ⟨he, bel⟩ => ?_
  subst he
  exact ⟨_, rfl, _, _, _, [], _, [], hW', trodAll_mk1 (shut_bool Try.underlying4 _), (trodAll_cons_mk (Below.trod laidOut (by kernel_rfl) (of_decide_eq_true (by kernel_rfl)) k0 bel lt0) (trodAll_cons_mk (shut_int Try.underlying38 w1) (trodAll_cons_mk (Below.trod laidOut (by kernel_rfl) (of_decide_eq_true (by kernel_rfl)) k2 bel lt2) (trodAll_cons_mk (shut_int Try.underlying2 w3) (trodAll_cons_mk (shut_int Try.underlying2 w4) trodAll_mk0))))), rfl, bel.frame _, fun h => by cases h⟩

theorem over : Rows.scanBackRow.holds Try.pinned (OpenSpec.ofChange Rows.scanBackSpec) :=
  OpenClaim.holds_of_wide 4 Try.f4 rfl rfl rfl rfl rfl rfl rfl ⟨rfl, rfl, rfl, rfl, rfl⟩ rfl rfl rfl rfl rfl (by kernel_rfl) Try.func4 (by kernel_rfl)
    (of_decide_eq_true (by kernel_rfl)) (by unfold Func.isWrapper; first | (rw [if_pos (by decide +kernel)]; kernel_rfl) | (rw [if_neg (by decide +kernel)]; exact ⟨rfl, rfl⟩))
    (fun os started H enc _ => lifted os started H enc)

theorem proved : Rows.ScanBackSaid := over
#print axioms proved
end Go.Proofs.Ytegbaidnkniccaa.scanBack
