/-
  PROVED: the law ScanTurned answers true at every input, and leaves what it was given as it was.
  CONDITIONS: none.
-/
import Derived.Test.YtegbaidnkniccaaRows
import Derived.WalkKit
import Derived.ProofKit
import Derived.OpenShut
import Derived.ShutString
import Derived.ChangeOld
import Derived.Below
import Derived.Test.YtegbaidnkniccaaAwake05
import Derived.Test.YtegbaidnkniccaaScanTurnMath
import Derived.Test.YtegbaidnkniccaaStr
import Derived.Deep.DeepCutAuto
import Derived.RegionTactic
namespace Go.Proofs.Ytegbaidnkniccaa.scanTurned
open Go.ChangeShapes Go.WideShapes Go.ChangeAt Go.RowKit
open Go.ChangeMaps (open_string shut_string)
set_option linter.unusedVariables false

theorem own : ownKnob Try.prog.godebug = none := by kernel_rfl
theorem laidOut : laidOutB Try.prog = true := by kernel_rfl


set_option maxRecDepth 100000 in
set_option maxHeartbeats 4000000 in
theorem walk (p0 : Option Addr) (n0 c0 : Nat) (x0 : List (FrameD)) (a1 : Int) (cs2 : Array Value) (x2 : List (Int)) (a3 : Int) (a4 : Int) (w : World) (w0 : (rdSlice rdFrame 9) w (Lt w.heap.size) [.slice p0 n0 c0] x0) (w1 : (Lit.int .u16 a1).wf = true) (w2 : (rdArr (rdInt .u8) 4 1) w (Lt w.heap.size) cs2.toList x2) (w3 : (Lit.int .i64 a3).wf = true) (w4 : (Lit.int .i64 a4).wf = true) :
    Calls Try.prog 5 #[.slice p0 n0 c0, .int .u16 a1, .agg cs2, .int .i64 a3, .int .i64 a4] w fun e w' => e = .returned (.bool true) ∧ Below w.heap.size w w' := by
  obtain ⟨hf, hfn, hfc, hfm⟩ := scan.frs_of w0
  obtain ⟨u, rfl, hu⟩ := nat_of_u16 w1
  obtain ⟨y0, y1, y2, y3, l0_, l1_, l2_, l3_, rfl⟩ := arr4_bytes w2
  have HFI := Lib.hid (Frs.fine hf)
  obtain ⟨W0, HW0⟩ : ∃ W, Hid (w.alloc (.cells #[.int .u8 (y0 : Int), .int .u8 (y1 : Int), .int .u8 (y2 : Int), .int .u8 (y3 : Int)] 40) = W) := ⟨_, Lib.hid rfl⟩
  have HBW : Hid (Below w.heap.size w W0) := Lib.hid (by rw [← HW0.out]; exact (Below.refl _ _).alloc (Nat.le_refl _) _)
  have HSZ : Hid (w.heap.size + 1 = W0.heap.size) := Lib.hid (by rw [← HW0.out]; simp)
  have HF : Hid (∀ W, Below W0.heap.size W0 W → Frs W w.heap.size p0 x0) := Lib.hid (fun W hb => hf.below (HBW.out.trans (hb.mono HBW.out.size)))
  obtain ⟨ys, HYS⟩ : ∃ ys, Hid ([y0, y1, y2, y3] = ys) := ⟨_, Lib.hid rfl⟩
  have hyl : Hid (ys.length = 4) := Lib.hid (by rw [← HYS.out]; rfl)
  have hyb : Hid (∀ y ∈ ys, y < 256) := Lib.hid (by rw [← HYS.out]; intro y hy; simp at hy; omega)
  have HB : Hid (∀ W, Below W0.heap.size W0 W → Bys W W0.heap.size (some ⟨w.heap.size, 0, none⟩) ys) := Lib.hid (fun W hb => by
    have := Bys.new (w := w) (t := 40) ys (cs := #[.int .u8 (y0 : Int), .int .u8 (y1 : Int), .int .u8 (y2 : Int), .int .u8 (y3 : Int)]) (by rw [← HYS.out]; rfl) hyb.out
    rw [HW0.out, HSZ.out] at this
    exact this.below hb)
  have HFN := Lib.hid hfn
  clear hf hfn w0 w1 w2 w3 w4 HYS
  by_cases h20 : 20 < n0
  · go_enter Try.func5, Try.ntmps5
    go_wp2_with ((with_reducible refine (scan.awake_any _).mono ?_); rintro e w1 ⟨rfl, hb0⟩; have hb1 : Below W0.heap.size W0 w1 := (by rw [HW0.out] at hb0; exact hb0); clear hb0)
    go_ret
    exact ⟨rfl, HBW.out.trans (hb1.mono HBW.out.size)⟩
  by_cases h0 : n0 = 0
  · subst h0
    go_enter Try.func5, Try.ntmps5
    go_wp2_with ((with_reducible refine (scan.awake_any _).mono ?_); rintro e w1 ⟨rfl, hb0⟩; have hb1 : Below W0.heap.size W0 w1 := (by rw [HW0.out] at hb0; exact hb0); clear hb0)
    go_ret
    exact ⟨rfl, HBW.out.trans (hb1.mono HBW.out.size)⟩
  have hz0 : ((n0 : Int) == 0) = false := by simpa using h0
  have hn0 : n0 ≤ 20 := by omega
  have hn1 : 1 ≤ n0 := by omega
  clear h20 h0
  obtain ⟨N, HNN⟩ : ∃ N, Hid (72 * n0 = N) := ⟨_, Lib.hid rfl⟩
  obtain ⟨q, HQ⟩ : ∃ q, Hid (scan.row x0 a3 a4 = q) := ⟨_, Lib.hid rfl⟩
  have hinfb : Hid ((Try.prog.info? 5).map (fun i => (i.zero, i.size, i.bytes)) = some (some (.int .u8 0), 1, 1)) := Lib.hid (by kernel_rfl)
  have hinff : Hid ((Try.prog.info? 28).map (fun i => (i.zero, i.size, i.bytes)) = some (some (.agg #[.int .i64 0, .int .i64 0, .int .i64 0, .int .i64 0, .int .i64 0, .int .i64 0, .int .i64 0, .int .i64 0, .int .i64 0]), 9, 72)) := Lib.hid (by kernel_rfl)
  go_enter Try.func5, Try.ntmps5
  go_wp2_with ((with_reducible refine (scan.awake_any _).mono ?_); rintro e w1 ⟨rfl, hb0⟩; have hb1 : Below W0.heap.size W0 w1 := (by rw [HW0.out] at hb0; exact hb0); clear hb0)
  have HB1 := Lib.hid hb1
  clear hb1
  refine Calls.mono (scan.row_of w1 (HF.out w1 HB1.out) (by have := HB1.out.size; have := HSZ.out; omega) HFN.out (by omega) HQ.out) ?_
  rintro e w2 ⟨rfl, hb2⟩
  have HB2 : Hid (Below W0.heap.size W0 w2) := Lib.hid (HB1.out.trans (hb2.mono HB1.out.size))
  clear hb2
  rcases q with _ | _
  · go_wp2
    go_ret
    exact ⟨rfl, HBW.out.trans (HB2.out.mono HBW.out.size)⟩
  go_wp2_with fail
  refine Calls.mono (scan.put_of w2 (HF.out w2 HB2.out) (by have := HB2.out.size; have := HSZ.out; omega) HFN.out (by omega) (scan.row_right HQ.out) HNN.out) ?_
  rintro e w3 ⟨A3, c3, rfl, hown3, hb3⟩
  have HB3 : Hid (Below W0.heap.size W0 w3) := Lib.hid (HB2.out.trans (hb3.mono HB2.out.size))
  have HX3 : Hid (∀ W, Below w3.heap.size w3 W → Bys W w3.heap.size A3 (scan.put x0)) := Lib.hid (fun W hb => hown3.bys.below hb)
  have HL3 : Hid ((scan.put x0).length = N) := Lib.hid (by rw [scan.put_len, HFN.out, HNN.out])
  have hzw3 : w.heap.size < w3.heap.size := by have := HB3.out.size; have := HSZ.out; omega
  clear hb3 hown3
  have hN1 : 72 ≤ N := by have := HNN.out; omega
  have hN2 : N ≤ 1440 := by have := HNN.out; omega
  have hNz : ((N : Int) == 0) = false := by simp; omega
  have hNi : (72 : Int) ≤ (N : Int) := by omega
  obtain ⟨f, Hf⟩ : ∃ f, Hid (u % N = f) := ⟨_, Lib.hid rfl⟩
  have hfl : f < N := by rw [← Hf.out]; exact Nat.mod_lt _ (by omega)
  have hfe : (u : Int) % (N : Int) = (f : Int) := by rw [← Hf.out]; simp
  go_wp2_with fail
  go_loop [14, 15] (fun s14 s15 => ∃ k v : Nat, k ≤ 4 ∧ s15 = .int .i64 ((k : Int) - 1) ∧ s14 = .int .i64 v ∧ Hid (scan.fst N (ys.drop k) (f + k) = v)) (fun _ s15 => (intOf s15 + 1).toNat)
  case atStart => exact ⟨4, N, by omega, rfl, rfl, Lib.hid (by rw [List.drop_of_length_le (by rw [hyl.out]; omega)]; rfl)⟩
  case round =>
    obtain ⟨k, v, hk, rfl, rfl, HV⟩ := hrel
    rcases k with _ | k
    · have hV0 : Hid (scan.fst N ys f = v) := HV
      rw [show ((0 : Nat) : Int) - 1 = -1 by rfl]
      have HVL : Hid (v ≤ N) := Lib.hid (by rw [← hV0.out]; exact scan.fst_le _ _ _)
      clear HV
      go_wp2_with (at_builtin; refine wpList_append_bys rfl (.tmp 75) (.tmp 76) _ rfl w3.heap.size 5 Try.underlying23 hinfb.out rfl (scan.ownNewB (Nat.le_refl _)) rfl (HX3.out _ ((Below.refl _ _).alloc (Nat.le_refl _) _)) HL3.out (by omega) (by simp) ?_; intro A4 c4 w4 hown4 hgr4 hat4; have hb4 : Below w3.heap.size w3 w4 := ((Below.refl _ _).alloc (Nat.le_refl _) _).grown hgr4 (by simp) (fun g' hgg => by simp [Value.ownBlock] at hgg; omega); clear hgr4 hat4)
      go_loopw [17] (fun i wr => ∃ (k : Nat), k ≤ 4 ∧ f + k ≤ N ∧ i = .int .i64 k ∧ OwnBys wr w3.heap.size 5 A4 N c4 (crc.turn (scan.put x0) (crc.amid f k (N - f - k) ys)) ∧ Below w3.heap.size w3 wr) (fun i _ => 4 - (intOf i).toNat)
      case atStart => exact ⟨0, by omega, by omega, rfl, by rw [crc.amid_zero, show f + (N - f - 0) = (scan.put x0).length by rw [HL3.out]; omega, crc.turn_zeros]; simpa using hown4, hb4⟩
      case round =>
        obtain ⟨k, hk, hfk, rfl, hown, hbr⟩ := hrel
        by_cases hgo : k < 4 ∧ f + k < N
        · obtain ⟨hk4, hfn⟩ := hgo
          obtain ⟨b1, o1, v1, e1, q1, X1, cell1, lt1⟩ := (HB.out wr (HB3.out.trans (hbr.mono HB3.out.size))).at_ (j := k) (by rw [hyl.out]; exact hk4)
          simp only [Option.some.injEq, Addr.mk.injEq, and_true] at e1
          obtain ⟨rfl, rfl⟩ := e1
          rw [Nat.zero_add] at cell1
          obtain ⟨b2, o2, v2, rfl, q2, X2, cell2, lt2⟩ := (HX3.out wr hbr).at_ (j := f + k) (by rw [HL3.out]; exact hfn)
          obtain ⟨g', z, rfl, q4, q5, X4, cell4, lt4, fr4⟩ := hown.at_ hfn
          obtain ⟨m, d1, g1, s1⟩ := xor8 v2 v1 lt2 lt1
          have hown2 : OwnBys (wr.setCell ⟨g', f + k, none⟩ (.int .u8 (m : Int))) w3.heap.size 5 (some ⟨g', 0, none⟩) N c4 (crc.turn (scan.put x0) (crc.amid f (k + 1) (N - f - (k + 1)) ys)) := by
            rw [crc.amid_step f k (N - f - (k + 1)) v1 ys X1.out, show N - f - (k + 1) + 1 = N - f - k by omega, crc.turn_set (scan.put x0) _ _ v2 v1 X2.out, ← g1.out]
            exact hown.stored (f + k) s1
          have hb2 : Below w3.heap.size w3 (wr.setCell ⟨g', f + k, none⟩ (.int .u8 (m : Int))) := hbr.setCell q4 _
          go_wp2
          go_region
          go_wp2
          go_roundw
          case rel => exact ⟨k + 1, by omega, by omega, by go_num, hown2, hb2.drew⟩
          case measure => first | (simp [intOf]; done) | (simp [intOf]; omega)
        · have hend : k = 4 ∨ (k < 4 ∧ f + k = N) := by omega
          clear hgo
          have hcap4 := scan.own_bys_cap hown
          have HALL : Hid (scan.all (crc.turn (scan.put x0) (crc.amid f k (N - f - k) ys)) a3 a4 = x0.take (v / 72)) := Lib.hid (by
            have h72 : 72 * x0.length = N := by rw [HFN.out]; exact HNN.out
            have := scan.all_turned x0 a3 a4 HFI.out HQ.out f k ys hk (by rw [hyl.out]; exact hk) hyb.out (by omega)
            rw [h72, scan.fst_take N ys f k (by rw [hyl.out]; omega), hV0.out] at this
            exact this)
          obtain ⟨D, HD⟩ : ∃ D, Hid (v / 72 = D) := ⟨_, Lib.hid rfl⟩
          have hDn : D ≤ n0 := by have := HNN.out; have := HD.out; have := HVL.out; omega
          have hDe : (v : Int) / 72 = (D : Int) := by have := HD.out; omega
          have hlen : (crc.turn (scan.put x0) (crc.amid f k (N - f - k) ys)).length = N := hown.len
          have HSC := Lib.hid (scan.scan_of wr hown.bys (Nat.le_refl _) hlen hcap4.1 hcap4.2 (by omega) HALL.out (k := D) (by rw [HD.out, List.length_take, HFN.out]; omega))
          have HBR : Hid (Below W0.heap.size W0 wr) := Lib.hid (HB3.out.trans (hbr.mono HB3.out.size))
          have hcut7 : ∀ W, (Instr.slice 22 (.slice p0 n0 c0) none (some (.int .i64 (D : Int))) none).run Try.prog W = .ok (.slice p0 D c0) W := fun W => scan.run_cut_to 22 28 9 72 _ Try.underlying22 hinff.out p0 n0 c0 D _ rfl (by omega) W
          clear hown hbr hcap4 hlen hown4 hb4
          rcases hend with rfl | ⟨hk4, hk5⟩
          all_goals
            go_wp2_with fail
            refine Calls.mono HSC.out ?_
            rintro e w5 ⟨A5, c5, rfl, hown5, hb5⟩
            have HB5 : Hid (Below W0.heap.size W0 w5) := Lib.hid (HBR.out.trans (hb5.mono HBR.out.size))
            have HO5 : Hid (Frs w5 w5.heap.size A5 (x0.take D)) := Lib.hid (by have := hown5.frs; rwa [HD.out] at this)
            clear hb5 hown5
            go_wp2_with fail
            refine Calls.mono (scan.same_of w5 HO5.out (Nat.le_refl _) (by rw [List.length_take, HFN.out]; omega) (by omega) ((HF.out w5 HB5.out).take D) (by have := HB5.out.size; have := HSZ.out; omega) (by rw [List.length_take, HFN.out]; omega) (by omega) (r := true) (decide_eq_true rfl)) ?_
            rintro e w6 ⟨rfl, hb6⟩
            have HB6 : Hid (Below W0.heap.size W0 w6) := Lib.hid (HB5.out.trans (hb6.mono HB5.out.size))
            clear hb6
            go_wp2
            go_ret
            exact ⟨rfl, HBW.out.trans (HB6.out.mono HBW.out.size)⟩
    · rw [show ((k + 1 : Nat) : Int) - 1 = (k : Int) by omega]
      obtain ⟨b1, o1, v1, e1, q1, X1, cell1, lt1⟩ := (HB.out w3 HB3.out).at_ (j := k) (by rw [hyl.out]; omega)
      simp only [Option.some.injEq, Addr.mk.injEq, and_true] at e1
      obtain ⟨rfl, rfl⟩ := e1
      rw [Nat.zero_add] at cell1
      have HST : Hid (scan.fst N (ys.drop k) (f + k) = if f + k < N ∧ v1 ≠ 0 then f + k else v) := Lib.hid (by
        rw [scan.fst_drop X1.out, ← HV.out]; rfl)
      clear HV
      by_cases hp : f + k < N
      · by_cases hv : v1 = 0
        · subst hv
          have HE : Hid (scan.fst N (ys.drop k) (f + k) = v) := Lib.hid (by rw [HST.out, if_neg (by simp)])
          go_wp2
          go_round
          case rel => exact ⟨k, by omega, rfl, v, rfl, HE⟩
          case measure => first | (simp [intOf]; done) | (simp [intOf]; omega)
        · have hvb : ((v1 : Int) != 0) = true := by simp; omega
          have HE : Hid (scan.fst N (ys.drop k) (f + k) = f + k) := Lib.hid (by rw [HST.out, if_pos ⟨hp, hv⟩])
          clear hv
          go_wp2
          go_round
          case rel => exact ⟨k, by omega, rfl, f + k, by omega, HE⟩
          case measure => first | (simp [intOf]; done) | (simp [intOf]; omega)
      · have hp2 : (N : Int) ≤ (f : Int) + (k : Int) := by omega
        have HE : Hid (scan.fst N (ys.drop k) (f + k) = v) := Lib.hid (by rw [HST.out, if_neg (by omega)])
        clear hp
        go_wp2
        go_round
        case rel => exact ⟨k, by omega, rfl, v, rfl, HE⟩
        case measure => first | (simp [intOf]; done) | (simp [intOf]; omega)

set_option maxRecDepth 100000 in
theorem lifted (os : Os) (started : os.Started) (H : Type) (enc : TypeId × Value → H) :
    ReturnsInHanded {} Try.checked os 5 .any (Rows.scanTurnedSpec.pre6 enc Try.prog Try.f5 Rows.scanTurnedRow.domain false) (Rows.scanTurnedSpec.post enc Try.prog Try.f5 false true false false) := by
  refine returnsInHanded_of_change (C := Try.checked) own started (by kernel_rfl) Try.func5
    (ChangeSpec.witness6 (enc := enc) (C := Try.checked) false ⟨#[], #[.slice none 0 0, .int .u16 0, .agg #[.int .u8 0, .int .u8 0, .int .u8 0, .int .u8 0], .int .i64 0, .int .i64 0], []⟩ 8 (by kernel_rfl) (by kernel_rfl) (by kernel_rfl) (by kernel_rfl)) ?_
  intro W base args ds gs before hval0 hW hcnd _
  have hval : ∀ (j : Nat) t v, Try.f5.params[j]? = some t → args[j]? = some v → Value.okWide Try.prog W .any base t v := hval0
  have hW' := hW
  obtain ⟨p, q, hA0, hV, rfl, hfz, hnd⟩ := hW
  have hA : DataW.TrodAll enc Try.prog W 0 (fun _ => true) true Try.f5.params.toList args.toList ds p := hA0
  rw [Try.params5] at hA hval
  obtain ⟨v0, vs0, d0, ds0, p0_, q0, hargs, rfl, rfl, h0, r0⟩ := trodAll_cons hA
  obtain ⟨v1, vs1, d1, ds1, p1_, q1, rfl, rfl, rfl, h1, r1⟩ := trodAll_cons r0
  obtain ⟨v2, vs2, d2, ds2, p2_, q2, rfl, rfl, rfl, h2, r2⟩ := trodAll_cons r1
  obtain ⟨v3, vs3, d3, ds3, p3_, q3, rfl, rfl, rfl, h3, r3⟩ := trodAll_cons r2
  obtain ⟨v4, vs4, d4, ds4, p4_, q4, rfl, rfl, rfl, h4, r4⟩ := trodAll_cons r3
  obtain ⟨rfl, rfl, rfl⟩ := trodAll_nil r4
  obtain rfl : args = #[v0, v1, v2, v3, v4] := by cases args; simp_all
  obtain ⟨rfl, rfl⟩ := trodVars_none hV
  obtain ⟨p0, n0, c0, rfl⟩ := okWide_slice Try.underlying22 (hval 0 22 v0 rfl rfl)
  have k0 := h0
  have lt0 : ∀ x ∈ p0_, x.block < W.heap.size := by obtain ⟨m, hm⟩ := k0; exact DataW.trod_lt m _ _ _ hm
  obtain ⟨x0, w0⟩ := of_arg (of_slice (size := 9) of_frame Try.underlying22 (by kernel_rfl) (by decide)) k0
  obtain ⟨a1, rfl, rfl, rfl, w1⟩ := open_int Try.underlying38 (hval 1 38 v1 rfl rfl) h1
  obtain ⟨cs2, rfl, hsz2⟩ := okWide_array Try.underlying40 (hval 2 40 v2 rfl rfl)
  have k2 := h2
  have lt2 : ∀ x ∈ p2_, x.block < W.heap.size := by obtain ⟨m, hm⟩ := k2; exact DataW.trod_lt m _ _ _ hm
  obtain ⟨x2, w2⟩ := of_arg (of_arr (n := 4) (size := 1) (of_int Try.underlying5) Try.underlying40 (by kernel_rfl) (by kernel_rfl)) k2
  obtain ⟨a3, rfl, rfl, rfl, w3⟩ := open_int Try.underlying2 (hval 3 2 v3 rfl rfl) h3
  obtain ⟨a4, rfl, rfl, rfl, w4⟩ := open_int Try.underlying2 (hval 4 2 v4 rfl rfl) h4
  clear hA0 hval0
  refine (walk p0 n0 c0 x0 a1 cs2 x2 a3 a4 W w0 w1 w2 w3 w4).mono fun e W' ⟨he, bel⟩ => ?_
  subst he
  exact ⟨_, rfl, _, _, _, [], _, [], hW', trodAll_mk1 (shut_bool Try.underlying4 _), (trodAll_cons_mk (Below.trod laidOut (by kernel_rfl) (of_decide_eq_true (by kernel_rfl)) k0 bel lt0) (trodAll_cons_mk (shut_int Try.underlying38 w1) (trodAll_cons_mk (Below.trod laidOut (by kernel_rfl) (of_decide_eq_true (by kernel_rfl)) k2 bel lt2) (trodAll_cons_mk (shut_int Try.underlying2 w3) (trodAll_cons_mk (shut_int Try.underlying2 w4) trodAll_mk0))))), rfl, bel.frame _, fun h => by cases h⟩

theorem over : Rows.scanTurnedRow.holds Try.pinned (OpenSpec.ofChange Rows.scanTurnedSpec) :=
  OpenClaim.holds_of_wide 5 Try.f5 rfl rfl rfl rfl rfl rfl rfl ⟨rfl, rfl, rfl, rfl, rfl⟩ rfl rfl rfl rfl rfl (by kernel_rfl) Try.func5 (by kernel_rfl)
    (of_decide_eq_true (by kernel_rfl)) (by unfold Func.isWrapper; first | (rw [if_pos (by decide +kernel)]; kernel_rfl) | (rw [if_neg (by decide +kernel)]; exact ⟨rfl, rfl⟩))
    (fun os started H enc _ => lifted os started H enc)

theorem proved : Rows.ScanTurnedSaid := over
#print axioms proved
end Go.Proofs.Ytegbaidnkniccaa.scanTurned
