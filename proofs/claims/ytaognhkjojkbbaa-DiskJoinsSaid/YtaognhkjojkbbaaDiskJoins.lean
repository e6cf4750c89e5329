/-
  PROVED: the law DiskJoins answers true at every input, and leaves what it was given as it was.
  CONDITIONS: none.
-/
import Derived.Test.YtaognhkjojkbbaaRows
import Derived.WalkKit
import Derived.ProofKit
import Derived.OpenShut
import Derived.ShutString
import Derived.ChangeOld
import Derived.Below
import Derived.Test.YtaognhkjojkbbaaDiskJoinsA
import Derived.Test.YtaognhkjojkbbaaDiskPlain
import Derived.Deep.CutRange
import Derived.Deep.DeepCutAuto
import Derived.Deep.DrawnRows
import Derived.Deep.RegionLaw
import Derived.Deep.RegionHeld
namespace Go.Proofs.Ytaognhkjojkbbaa.diskJoins
open Go.ChangeShapes Go.WideShapes Go.ChangeAt Go.RowKit
open Go.ChangeMaps (open_string shut_string)
set_option linter.unusedVariables false

theorem own : ownKnob Try.prog.godebug = none := by kernel_rfl
theorem laidOut : laidOutB Try.prog = true := by kernel_rfl

attribute [local go_sem] undef
attribute [local go_sem ↓] Go.wp_at_zero Go.wp_at_succ

set_option maxRecDepth 100000 in
set_option maxHeartbeats 8000000 in
theorem walk (cs0 : Array Value) (x0 : DiskD) (a1 : ByteArray) (a2 : ByteArray) (p3 : Option Addr) (n3 c3 : Nat) (x3 : List Nat) (p4 : Option Addr) (n4 c4 : Nat) (x4 : List Nat) (a5 : Int) (w : World) (w0 : rdDisk w (Lt w.heap.size) cs0.toList x0) (w1 : a1.size ≤ maxLen) (w2 : a2.size ≤ maxLen) (w3 : rdBytes w (Lt w.heap.size) [.slice p3 n3 c3] x3) (w4 : rdBytes w (Lt w.heap.size) [.slice p4 n4 c4] x4) (w5 : (Lit.int .i64 a5).wf = true) :
    Calls Try.prog 7 #[.agg cs0, .string a1, .string a2, .slice p3 n3 c3, .slice p4 n4 c4, .int .i64 a5] w fun e w' => e = .returned (.bool true) ∧ Below w.heap.size w w' := by
  by_cases hmain : disk.shortB x0.files = true ∧ a1.size ≤ 100 ∧ a2.size ≤ 100 ∧ n3 ≤ 3000 ∧ n4 ≤ 3000 ∧ disk.rightB x0 = true ∧ x0.down = false ∧ x0.fuse = -1
  case neg => exact early cs0 x0 a1 a2 p3 n3 c3 x3 p4 n4 c4 x4 a5 w w0 w1 w2 w3 w4 w5 hmain
  obtain ⟨fs, room, fuse, down⟩ := x0
  obtain ⟨A, n, c, he, hf0, hn, hnc, hcm, hr, hfu⟩ := w0
  simp only at he hf0 hn hr hfu
  obtain rfl : cs0 = #[.slice A n c, .int .i64 room, .int .i64 fuse, .bool down] := Array.toList_inj.1 he
  obtain ⟨q3, m3, k3, e3, hk3, hkn3, hkc3, hkm3⟩ := w3
  obtain ⟨rfl, rfl, rfl⟩ : p3 = q3 ∧ n3 = m3 ∧ c3 = k3 := by simpa using e3
  obtain ⟨q4, m4, k4, e4, hk4, hkn4, hkc4, hkm4⟩ := w4
  obtain ⟨rfl, rfl, rfl⟩ : p4 = q4 ∧ n4 = m4 ∧ c4 = k4 := by simpa using e4
  obtain ⟨hsh, hs1, hs2, hs3, hs4, hri, hd, hfz⟩ := hmain
  simp only at hsh hri hd hfz
  subst hd hfz
  have H5 := Lib.hid (inI_of_wf w5)
  have HP : Hid (disk.Plain ⟨fs, room, -1, false⟩) := Lib.hid ⟨hri, rfl, rfl⟩
  have HD : Hid (disk.At w A n c fs room) := Lib.hid ⟨hf0, hn, hnc, hcm, HP.out⟩
  have HSH := Lib.hid hsh
  have HN := Lib.hid hn
  have HNC := Lib.hid hnc
  have HCM := Lib.hid hcm
  have HI := Lib.hid (inI_of_wf hr)
  have HY3 : Hid (∀ W, Below w.heap.size w W → Bys W w.heap.size p3 x3) := Lib.hid (fun W hb => Bys.below (BysIn.bys hk3 (fun _ h => h)) hb)
  have HY4 : Hid (∀ W, Below w.heap.size w W → Bys W w.heap.size p4 x4) := Lib.hid (fun W hb => Bys.below (BysIn.bys hk4 (fun _ h => h)) hb)
  have HKN3 := Lib.hid hkn3; have HKC3 := Lib.hid hkc3; have HKM3 := Lib.hid hkm3
  have HKN4 := Lib.hid hkn4; have HKC4 := Lib.hid hkc4; have HKM4 := Lib.hid hkm4
  clear hr hfu hn hnc hcm hkn3 hkc3 hkm3 hkn4 hkc4 hkm4 he e3 e4 hf0 hk3 hk4 hsh hri w5
  obtain ⟨W0, HW0⟩ : ∃ W, Hid (w.alloc (.cells #[.slice A n c, .int .i64 room, .int .i64 (-1), .bool false] 24) = W) := ⟨_, Lib.hid rfl⟩
  have HBW : Hid (Below w.heap.size w W0) := Lib.hid (by rw [← HW0.out]; exact (Below.refl _ _).alloc (Nat.le_refl _) _)
  have HBX : Hid (∀ W, Below W0.heap.size W0 W → W.heap[w.heap.size]? = some (.cells #[.slice A n c, .int .i64 room, .int .i64 (-1), .bool false] 24 (0, 0))) := Lib.hid (fun W hb => by rw [← HW0.out] at hb; exact (hb.block _ (by simp)).trans (heap_alloc_new w _))
  have HWW : Hid (∀ W, Below W0.heap.size W0 W → Below w.heap.size w W) := Lib.hid (fun W hb => HBW.out.trans (hb.mono HBW.out.size))
  go_enter Try.func7, Try.ntmps7
  go_wp2_with fail
  rw [HW0.out]
  refine Calls.mono (disk.awake_any W0) ?_
  rintro e w1 ⟨rfl, hb1⟩
  have HB1 : Hid (Below W0.heap.size W0 w1) := Lib.hid hb1
  obtain ⟨z0, z1, z2, z3, zl⟩ := disk.cells4 (HBX.out w1 HB1.out)
  clear hb1
  go_wp2_with fail
  refine Calls.mono (short_is A n c room (-1) false fs true w1 ((HD.out.later (HWW.out w1 HB1.out)).1) HN.out (Nat.le_trans HNC.out HCM.out) HSH.out) ?_
  rintro e w2 ⟨rfl, hb2⟩
  have HB2 : Hid (Below W0.heap.size W0 w2) := Lib.hid (HB1.out.trans (hb2.mono HB1.out.size))
  clear hb2 z0 z1 z2 z3 zl
  obtain ⟨z0, z1, z2, z3, zl⟩ := disk.cells4 (HBX.out w2 HB2.out)
  go_wp2_with fail
  refine Calls.mono (disk.dright A n c room (-1) false fs true (Lt w2.heap.size) w2 (fun _ h => h) ((HD.out.later (HWW.out w2 HB2.out)).1) HN.out HNC.out HCM.out HI.out (by unfold inI; omega) HSH.out HP.out.1) ?_
  rintro e w3 ⟨rfl, hb3⟩
  have HB3w : Hid (Below W0.heap.size W0 w3) := Lib.hid (HB2.out.trans (hb3.mono HB2.out.size))
  clear hb3 z0 z1 z2 z3 zl
  obtain ⟨z0, z1, z2, z3, zl⟩ := disk.cells4 (HBX.out w3 HB3w.out)
  go_upto_region 5 with fail
  clear z0 z1 z2 z3 zl
  have hw3 : w.heap.size ≤ w3.heap.size := (HWW.out w3 HB3w.out).size
  have hinf : Hid ((Try.prog.info? 5).map (fun i => (i.zero, i.size, i.bytes)) = some (some (.int .u8 0), 1, 1)) := Lib.hid (by kernel_rfl)
  obtain ⟨f1, e1, hr1, hp1⟩ := disk.plain_append HP.out a1 (x3 ++ x4)
  obtain ⟨f2, e2, hr2, hp2⟩ := disk.plain_append HP.out a1 x3
  obtain ⟨f3, e3, hr3, hp3⟩ := disk.plain_append hp2 a1 x4
  have hj := disk.append_joins HP.out a1 x3 x4
  rw [hr1, hr2] at hj
  simp only at hj
  rw [hr3] at hj
  simp only at hj
  have HJ := Lib.hid hj
  have HR1 := Lib.hid hr1
  have HR2 := Lib.hid hr2
  have HR3 := Lib.hid hr3
  have HP1 := Lib.hid hp1
  have HP2 := Lib.hid hp2
  have HP3 := Lib.hid hp3
  clear hj hr1 hr2 hr3 hp1 hp2 hp3
  go_cut [13, 14] (fun v u wx => ∃ (g : Nat) (A7 : Option Addr) (n7 c7 : Nat), v = .pointer (some ⟨g, 0, none⟩) ∧ u = .int .i64 e1 ∧ wx.heap[g]? = some (.cells #[.slice A7 n7 c7, .int .i64 room, .int .i64 (-1), .bool false] 24 (0, 0)) ∧ disk.At wx A7 n7 c7 f1 room ∧ Below w3.heap.size w3 wx)
  case first =>
    -- R5 BEGINS
    refine wp_region_held_drew (S := fun W => Below w3.heap.size w3 W) (by kernel_rfl) (Below.refl _ _).drew (fun _ => ?_)
    obtain ⟨W4, hW4⟩ : ∃ x, x = w3.drew := ⟨_, rfl⟩
    rw [← hW4]
    have HB4 : Hid (Below w3.heap.size w3 W4) := Lib.hid (by rw [hW4]; exact (Below.refl _ _).drew)
    clear hW4
    refine wpAnyH_take (i := 0) (v := .agg #[.slice A n c, .int .i64 room, .int .i64 (-1), .bool false]) rfl (by kernel_rfl) (by kernel_rfl) (by kernel_rfl) (fun _ _ _ h => h) (Or.inl ⟨by kernel_rfl, ?h0⟩) HB4.out ?_
    case h0 => (intro W9 hW9; obtain ⟨y0, y1, y2, y3, yl⟩ := disk.cells4 (HBX.out W9 (HB3w.out.trans ((show Below w3.heap.size w3 W9 from hW9).mono HB3w.out.size))); go_simp)
    go_simp
    refine wpAnyH_take (i := 1) (v := .string a1) rfl (by kernel_rfl) (by kernel_rfl) (by kernel_rfl) (fun _ _ _ h => h) (Or.inl ⟨by kernel_rfl, ?h1⟩) HB4.out ?_
    case h1 => (intro W9 _; go_simp)
    go_simp
    refine wpAnyH_take (i := 3) (v := .slice p3 n3 c3) rfl (by kernel_rfl) (by kernel_rfl) (by kernel_rfl) (fun _ _ _ h => h) (Or.inl ⟨by kernel_rfl, ?h3⟩) HB4.out ?_
    case h3 => (intro W9 _; go_simp)
    go_simp
    refine wpAnyH_take (i := 5) (v := .slice p4 n4 c4) rfl (by kernel_rfl) (by kernel_rfl) (by kernel_rfl) (fun _ _ _ h => h) (Or.inl ⟨by kernel_rfl, ?h5⟩) HB4.out ?_
    case h5 => (intro W9 _; go_simp)
    go_simp
    refine wpAnyH_ready (rs := [2, 11]) (by kernel_rfl) (by simp) ?_
    refine AllReadyH.cons rfl (fun K hK => ?_) (AllReadyH.cons rfl (fun K hK => ?_) AllReadyH.nil)
    · go_simp
      obtain ⟨W5, hW5⟩ : ∃ x, x = W4.alloc (.cells #[] 5) := ⟨_, rfl⟩
      rw [← hW5]
      have hz4 : w3.heap.size ≤ W4.heap.size := HB4.out.size
      have HB5 : Hid (Below w3.heap.size w3 W5) := Lib.hid (by rw [hW5]; exact HB4.out.alloc hz4 _)
      refine hK.out _ _ HB5.out (fun _ => ?_)
      clear hK K
      have HO5 : Hid (OwnBys W5 w3.heap.size 5 (some ⟨W4.heap.size, 0, none⟩) 0 0 []) := Lib.hid (by rw [hW5]; exact disk.ownNewB hz4)
      clear hW5
      refine wpAnyH_ready (rs := [4, 11]) (by kernel_rfl) (by simp) ?_
      refine AllReadyH.cons rfl (fun K hK => ?_) (AllReadyH.cons rfl (fun K hK => ?_) AllReadyH.nil)
      · have hz5 : w3.heap.size ≤ W5.heap.size := HB5.out.size
        obtain ⟨A4, c4a, W6, hrun, hown, hgr, hgr2⟩ := disk.run_append_by (P := Try.prog) w3.heap.size 25 25 5 Try.underlying25 hinf.out HO5.out (HY3.out W5 (HWW.out W5 (HB3w.out.trans (HB5.out.mono HB3w.out.size)))) (m := n3) (c2 := c3) HKN3.out (by omega) hz5
        simp only [Nat.zero_add, List.nil_append] at hrun hown hgr2
        refine disk.step_append_runG (by kernel_rfl) _ _ 25 rfl _ _ (by rfl) (by rfl) hrun ?_
        have HB6 : Hid (Below w3.heap.size w3 W6) := Lib.hid (HB5.out.grown hgr hz5 (fun x hx => (OwnInts.block HO5.out x hx).1))
        refine hK.out _ _ HB6.out (fun _ => ?_)
        clear hK K
        have HO6 : Hid (OwnBys W6 w3.heap.size 5 A4 n3 c4a x3) := Lib.hid hown
        clear hrun hown hgr hgr2
        go_simp
        refine wpAnyH_ready (rs := [6, 11]) (by kernel_rfl) (by simp) ?_
        refine AllReadyH.cons rfl (fun K hK => ?_) (AllReadyH.cons rfl (fun K hK => ?_) AllReadyH.nil)
        · have hz6 : w3.heap.size ≤ W6.heap.size := HB6.out.size
          obtain ⟨A6, c6a, W7, hrun, hown, hgr, hgr2⟩ := disk.run_append_by (P := Try.prog) w3.heap.size 25 25 5 Try.underlying25 hinf.out HO6.out (HY4.out W6 (HWW.out W6 (HB3w.out.trans (HB6.out.mono HB3w.out.size)))) (m := n4) (c2 := c4) HKN4.out (by omega) hz6
          refine disk.step_append_runG (by kernel_rfl) _ _ 25 rfl _ _ (by rfl) (by rfl) hrun ?_
          have HB7 : Hid (Below w3.heap.size w3 W7) := Lib.hid (HB6.out.grown hgr hz6 (fun x hx => (OwnInts.block HO6.out x hx).1))
          refine hK.out _ _ HB7.out (fun _ => ?_)
          clear hK K
          have HO7 : Hid (OwnBys W7 w3.heap.size 5 A6 (n3 + n4) c6a (x3 ++ x4)) := Lib.hid hown
          clear hrun hown hgr hgr2
          go_simp
          refine wpAnyH_ready (rs := [7, 11]) (by kernel_rfl) (by simp) ?_
          refine AllReadyH.cons rfl (fun K hK => ?_) (AllReadyH.cons rfl (fun K hK => ?_) AllReadyH.nil)
          · have hcap6 := OwnInts.cap HO7.out
            go_simp
            go_wp2_with (refine Calls.mono (disk.append_at HD.out (HWW.out W7 (HB3w.out.trans (HB7.out.mono HB3w.out.size))) hs1 (OwnBys.bys HO7.out) (Nat.le_refl _) (by rw [List.length_append, HKN3.out, HKN4.out]) hcap6.1 hcap6.2 (by omega) HR1.out HP1.out) ?_; rintro e7 W8 ⟨A7, n7, c7, rfl, hat7, hb7⟩)
            obtain ⟨hs7, hl7, hm7, hc7, _⟩ := hat7
            have HS8 : Hid (FilesIn W8 (Lt W8.heap.size) A7 f1) := Lib.hid hs7
            have HB8 : Hid (Below w3.heap.size w3 W8) := Lib.hid (HB7.out.trans (hb7.mono HB7.out.size))
            have HL7 := Lib.hid hl7
            clear hs7 hb7 hcap6 hl7
            refine hK.out _ _ HB8.out (fun _ => ?_)
            clear hK K
            go_simp
            refine wpAnyH_take (i := 8) (v := .tuple #[.agg #[.slice A7 n7 c7, .int .i64 room, .int .i64 (-1), .bool false], .int .i64 e1]) rfl (by kernel_rfl) (by kernel_rfl) (by kernel_rfl) (fun _ _ _ h => h) (Or.inl ⟨by kernel_rfl, ?h8⟩) HB8.out ?_
            case h8 => (intro W9 _; go_simp)
            go_simp
            refine wpAnyH_take (i := 9) (v := .agg #[.slice A7 n7 c7, .int .i64 room, .int .i64 (-1), .bool false]) rfl (by kernel_rfl) (by kernel_rfl) (by kernel_rfl) (fun _ _ _ h => h) (Or.inl ⟨by kernel_rfl, ?h9⟩) HB8.out ?_
            case h9 => (intro W9 _; go_simp)
            go_simp
            refine wpAnyH_take (i := 10) (v := .int .i64 e1) rfl (by kernel_rfl) (by kernel_rfl) (by kernel_rfl) (fun _ _ _ h => h) (Or.inl ⟨by kernel_rfl, ?h10⟩) HB8.out ?_
            case h10 => (intro W9 _; go_simp)
            go_simp
            refine wpAnyH_ready (rs := [11]) (by kernel_rfl) (by simp) ?_
            refine AllReadyH.cons rfl (fun K hK => ?_) AllReadyH.nil
            go_simp
            obtain ⟨W9, hW9⟩ : ∃ x, x = W8.alloc (.cells #[.slice none 0 0, .int .i64 0, .int .i64 0, .bool false] 24) := ⟨_, rfl⟩
            rw [← hW9]
            have hz8 : w3.heap.size ≤ W8.heap.size := HB8.out.size
            have HB9 : Hid (Below w3.heap.size w3 W9) := Lib.hid (by rw [hW9]; exact HB8.out.alloc hz8 _)
            refine hK.out _ _ HB9.out (fun _ => ?_)
            clear hK K
            have HG9 : Hid (W9.heap[W8.heap.size]? = some (.cells #[.slice none 0 0, .int .i64 0, .int .i64 0, .bool false] 24 (0, 0))) := Lib.hid (by rw [hW9]; exact heap_alloc_new W8 _)
            have hg13 : W8.heap.size < W9.heap.size := cell_block (block_cell HG9.out 0 _ rfl).1
            have hgw : w.heap.size ≤ W8.heap.size := Nat.le_trans hw3 hz8
            have hgb : w3.heap.size ≤ W8.heap.size := hz8
            have HS9 : Hid (disk.Sans W8.heap.size W9 A7 f1) := Lib.hid (by rw [hW9]; exact disk.sans_new HS8.out _)
            clear hW9
            refine wpAnyH_ready (rs := [12]) (by kernel_rfl) (by simp) ?_
            refine AllReadyH.cons rfl (fun K hK => ?_) AllReadyH.nil
            obtain ⟨u0, t0⟩ := block_cell HG9.out 0 (.slice none 0 0) rfl
            obtain ⟨u1, t1⟩ := block_cell HG9.out 1 (.int .i64 0) rfl
            obtain ⟨u2, t2⟩ := block_cell HG9.out 2 (.int .i64 0) rfl
            obtain ⟨u3, t3⟩ := block_cell HG9.out 3 (.bool false) rfl
            go_simp
            obtain ⟨W10, hW10⟩ : ∃ x, x = ((((W9.setCell ⟨W8.heap.size, 0, none⟩ (.slice A7 n7 c7)).setCell ⟨W8.heap.size, 1, none⟩ (.int .i64 room)).setCell ⟨W8.heap.size, 2, none⟩ (.int .i64 (-1))).setCell ⟨W8.heap.size, 3, none⟩ (.bool false)) := ⟨_, rfl⟩
            rw [← hW10]
            have HG10 : Hid (W10.heap[W8.heap.size]? = some (.cells #[.slice A7 n7 c7, .int .i64 room, .int .i64 (-1), .bool false] 24 (0, 0))) := Lib.hid (by rw [hW10]; exact heap_set4_self _ _ _ _ HG9.out)
            have HB10 : Hid (Below w3.heap.size w3 W10) := Lib.hid (by rw [hW10]; exact below_set4 HB9.out hgb _ _ _ _)
            refine hK.out _ _ HB10.out (fun _ => ?_)
            clear hK K
            have HA10 : Hid (disk.At W10 A7 n7 c7 f1 room) := Lib.hid ⟨by rw [hW10]; exact disk.sans_set HS9.out _ _ _ _, HL7.out, hm7, hc7, HP1.out⟩
            clear hW10 u0 u1 u2 u3 t0 t1 t2 t3
            refine wpAnyH_take (i := 13) (v := .int .i64 e1) rfl (by kernel_rfl) (by kernel_rfl) (by kernel_rfl) (fun _ _ _ h => h) (Or.inl ⟨by kernel_rfl, ?h13⟩) HB10.out ?_
            case h13 => (intro W9 _; go_simp)
            go_simp
            refine wpAnyH_done (by kernel_rfl) ?_ _
            go_wp2_with fail
            go_meet
            exact ⟨W8.heap.size, A7, n7, c7, rfl, rfl, HG10.out, HA10.out, HB10.out⟩
          · go_simp
            obtain ⟨W8, hW8⟩ : ∃ x, x = W7.alloc (.cells #[.slice none 0 0, .int .i64 0, .int .i64 0, .bool false] 24) := ⟨_, rfl⟩
            rw [← hW8]
            have hz7 : w3.heap.size ≤ W7.heap.size := HB7.out.size
            have HB8 : Hid (Below w3.heap.size w3 W8) := Lib.hid (by rw [hW8]; exact HB7.out.alloc hz7 _)
            refine hK.out _ _ HB8.out (fun _ => ?_)
            clear hK K
            have HG8 : Hid (W8.heap[W7.heap.size]? = some (.cells #[.slice none 0 0, .int .i64 0, .int .i64 0, .bool false] 24 (0, 0))) := Lib.hid (by rw [hW8]; exact heap_alloc_new W7 _)
            have hg13 : W7.heap.size < W8.heap.size := cell_block (block_cell HG8.out 0 _ rfl).1
            have hgw : w.heap.size ≤ W7.heap.size := Nat.le_trans hw3 hz7
            have hgb : w3.heap.size ≤ W7.heap.size := hz7
            have HO8 : Hid (OwnBys W8 w3.heap.size 5 A6 (n3 + n4) c6a (x3 ++ x4)) := Lib.hid (by rw [hW8]; exact OwnBys.alloc HO7.out _)
            have HE8 : Hid (∀ x, (Value.slice A6 (n3 + n4) c6a).ownBlock = some x → x ≠ W7.heap.size) := Lib.hid (fun x hx => by have := (OwnInts.block HO7.out x hx).2; omega)
            clear hW8
            refine wpAnyH_ready (rs := [7]) (by kernel_rfl) (by simp) ?_
            refine AllReadyH.cons rfl (fun K hK => ?_) AllReadyH.nil
            have hcap6 := OwnInts.cap HO8.out
            go_simp
            go_wp2_with (refine Calls.mono (disk.append_off HD.out (HWW.out W8 (HB3w.out.trans (HB8.out.mono HB3w.out.size))) (g := W7.heap.size) hgw hg13 hs1 (disk.own_sans HO8.out HE8.out) (by rw [List.length_append, HKN3.out, HKN4.out]) hcap6.1 hcap6.2 (by omega) HR1.out) ?_; rintro e7 W9 ⟨A7, n7, c7, rfl, hs7, hl7, hm7, hc7, hb7⟩)
            have HS9 : Hid (disk.Sans W7.heap.size W9 A7 f1) := Lib.hid hs7
            have HG9 : Hid (W9.heap[W7.heap.size]? = some (.cells #[.slice none 0 0, .int .i64 0, .int .i64 0, .bool false] 24 (0, 0))) := Lib.hid ((hb7.block _ hg13).trans HG8.out)
            have HB9 : Hid (Below w3.heap.size w3 W9) := Lib.hid (HB8.out.trans (hb7.mono HB8.out.size))
            have HL7 := Lib.hid hl7
            clear hs7 hb7 hcap6 hl7
            refine hK.out _ _ HB9.out (fun _ => ?_)
            clear hK K
            go_simp
            refine wpAnyH_take (i := 8) (v := .tuple #[.agg #[.slice A7 n7 c7, .int .i64 room, .int .i64 (-1), .bool false], .int .i64 e1]) rfl (by kernel_rfl) (by kernel_rfl) (by kernel_rfl) (fun _ _ _ h => h) (Or.inl ⟨by kernel_rfl, ?h8⟩) HB9.out ?_
            case h8 => (intro W9 _; go_simp)
            go_simp
            refine wpAnyH_take (i := 9) (v := .agg #[.slice A7 n7 c7, .int .i64 room, .int .i64 (-1), .bool false]) rfl (by kernel_rfl) (by kernel_rfl) (by kernel_rfl) (fun _ _ _ h => h) (Or.inl ⟨by kernel_rfl, ?h9⟩) HB9.out ?_
            case h9 => (intro W9 _; go_simp)
            go_simp
            refine wpAnyH_take (i := 10) (v := .int .i64 e1) rfl (by kernel_rfl) (by kernel_rfl) (by kernel_rfl) (fun _ _ _ h => h) (Or.inl ⟨by kernel_rfl, ?h10⟩) HB9.out ?_
            case h10 => (intro W9 _; go_simp)
            go_simp
            refine wpAnyH_ready (rs := [12]) (by kernel_rfl) (by simp) ?_
            refine AllReadyH.cons rfl (fun K hK => ?_) AllReadyH.nil
            obtain ⟨u0, t0⟩ := block_cell HG9.out 0 (.slice none 0 0) rfl
            obtain ⟨u1, t1⟩ := block_cell HG9.out 1 (.int .i64 0) rfl
            obtain ⟨u2, t2⟩ := block_cell HG9.out 2 (.int .i64 0) rfl
            obtain ⟨u3, t3⟩ := block_cell HG9.out 3 (.bool false) rfl
            go_simp
            obtain ⟨W10, hW10⟩ : ∃ x, x = ((((W9.setCell ⟨W7.heap.size, 0, none⟩ (.slice A7 n7 c7)).setCell ⟨W7.heap.size, 1, none⟩ (.int .i64 room)).setCell ⟨W7.heap.size, 2, none⟩ (.int .i64 (-1))).setCell ⟨W7.heap.size, 3, none⟩ (.bool false)) := ⟨_, rfl⟩
            rw [← hW10]
            have HG10 : Hid (W10.heap[W7.heap.size]? = some (.cells #[.slice A7 n7 c7, .int .i64 room, .int .i64 (-1), .bool false] 24 (0, 0))) := Lib.hid (by rw [hW10]; exact heap_set4_self _ _ _ _ HG9.out)
            have HB10 : Hid (Below w3.heap.size w3 W10) := Lib.hid (by rw [hW10]; exact below_set4 HB9.out hgb _ _ _ _)
            refine hK.out _ _ HB10.out (fun _ => ?_)
            clear hK K
            have HA10 : Hid (disk.At W10 A7 n7 c7 f1 room) := Lib.hid ⟨by rw [hW10]; exact disk.sans_set HS9.out _ _ _ _, HL7.out, hm7, hc7, HP1.out⟩
            clear hW10 u0 u1 u2 u3 t0 t1 t2 t3
            refine wpAnyH_take (i := 13) (v := .int .i64 e1) rfl (by kernel_rfl) (by kernel_rfl) (by kernel_rfl) (fun _ _ _ h => h) (Or.inl ⟨by kernel_rfl, ?h13⟩) HB10.out ?_
            case h13 => (intro W9 _; go_simp)
            go_simp
            refine wpAnyH_done (by kernel_rfl) ?_ _
            go_wp2_with fail
            go_meet
            exact ⟨W7.heap.size, A7, n7, c7, rfl, rfl, HG10.out, HA10.out, HB10.out⟩
        · go_simp
          obtain ⟨W7, hW7⟩ : ∃ x, x = W6.alloc (.cells #[.slice none 0 0, .int .i64 0, .int .i64 0, .bool false] 24) := ⟨_, rfl⟩
          rw [← hW7]
          have hz6 : w3.heap.size ≤ W6.heap.size := HB6.out.size
          have HB7 : Hid (Below w3.heap.size w3 W7) := Lib.hid (by rw [hW7]; exact HB6.out.alloc hz6 _)
          refine hK.out _ _ HB7.out (fun _ => ?_)
          clear hK K
          have HG7 : Hid (W7.heap[W6.heap.size]? = some (.cells #[.slice none 0 0, .int .i64 0, .int .i64 0, .bool false] 24 (0, 0))) := Lib.hid (by rw [hW7]; exact heap_alloc_new W6 _)
          have hg13 : W6.heap.size < W7.heap.size := cell_block (block_cell HG7.out 0 _ rfl).1
          have hgw : w.heap.size ≤ W6.heap.size := Nat.le_trans hw3 hz6
          have hgb : w3.heap.size ≤ W6.heap.size := hz6
          have HO7 : Hid (OwnBys W7 w3.heap.size 5 A4 n3 c4a x3) := Lib.hid (by rw [hW7]; exact OwnBys.alloc HO6.out _)
          have HE7 : Hid (∀ x, (Value.slice A4 n3 c4a).ownBlock = some x → x ≠ W6.heap.size) := Lib.hid (fun x hx => by have := (OwnInts.block HO6.out x hx).2; omega)
          clear hW7
          refine wpAnyH_ready (rs := [6]) (by kernel_rfl) (by simp) ?_
          refine AllReadyH.cons rfl (fun K hK => ?_) AllReadyH.nil
          have hz7 : w3.heap.size ≤ W7.heap.size := HB7.out.size
          obtain ⟨A6, c6a, W8, hrun, hown, hgr, hgr2⟩ := disk.run_append_by (P := Try.prog) w3.heap.size 25 25 5 Try.underlying25 hinf.out HO7.out (HY4.out W7 (HWW.out W7 (HB3w.out.trans (HB7.out.mono HB3w.out.size)))) (m := n4) (c2 := c4) HKN4.out (by omega) hz7
          have hkeep : ∀ b, b < W7.heap.size → (∀ x, (Value.slice A4 n3 c4a).ownBlock = some x → x ≠ b) → W8.heap[b]? = W7.heap[b]? := fun b hb hne => hgr.block b hb (fun hh => hne b hh.symm rfl)
          refine disk.step_append_runG (by kernel_rfl) _ _ 25 rfl _ _ (by rfl) (by rfl) hrun ?_
          have HB8 : Hid (Below w3.heap.size w3 W8) := Lib.hid (HB7.out.grown hgr hz7 (fun x hx => (OwnInts.block HO7.out x hx).1))
          refine hK.out _ _ HB8.out (fun _ => ?_)
          clear hK K
          have HO8 : Hid (OwnBys W8 w3.heap.size 5 A6 (n3 + n4) c6a (x3 ++ x4)) := Lib.hid hown
          have HG8 : Hid (W8.heap[W6.heap.size]? = some (.cells #[.slice none 0 0, .int .i64 0, .int .i64 0, .bool false] 24 (0, 0))) := Lib.hid ((hkeep _ hg13 HE7.out).trans HG7.out)
          have HE8 : Hid (∀ x, (Value.slice A6 (n3 + n4) c6a).ownBlock = some x → x ≠ W6.heap.size) := Lib.hid (disk.own_ne HE7.out hg13 hgr2)
          clear hg13 hgr2
          have hg13 : W6.heap.size < W8.heap.size := cell_block (block_cell HG8.out 0 _ rfl).1
          clear hrun hown hgr hkeep
          go_simp
          refine wpAnyH_ready (rs := [7]) (by kernel_rfl) (by simp) ?_
          refine AllReadyH.cons rfl (fun K hK => ?_) AllReadyH.nil
          have hcap6 := OwnInts.cap HO8.out
          go_simp
          go_wp2_with (refine Calls.mono (disk.append_off HD.out (HWW.out W8 (HB3w.out.trans (HB8.out.mono HB3w.out.size))) (g := W6.heap.size) hgw hg13 hs1 (disk.own_sans HO8.out HE8.out) (by rw [List.length_append, HKN3.out, HKN4.out]) hcap6.1 hcap6.2 (by omega) HR1.out) ?_; rintro e7 W9 ⟨A7, n7, c7, rfl, hs7, hl7, hm7, hc7, hb7⟩)
          have HS9 : Hid (disk.Sans W6.heap.size W9 A7 f1) := Lib.hid hs7
          have HG9 : Hid (W9.heap[W6.heap.size]? = some (.cells #[.slice none 0 0, .int .i64 0, .int .i64 0, .bool false] 24 (0, 0))) := Lib.hid ((hb7.block _ hg13).trans HG8.out)
          have HB9 : Hid (Below w3.heap.size w3 W9) := Lib.hid (HB8.out.trans (hb7.mono HB8.out.size))
          have HL7 := Lib.hid hl7
          clear hs7 hb7 hcap6 hl7
          refine hK.out _ _ HB9.out (fun _ => ?_)
          clear hK K
          go_simp
          refine wpAnyH_take (i := 8) (v := .tuple #[.agg #[.slice A7 n7 c7, .int .i64 room, .int .i64 (-1), .bool false], .int .i64 e1]) rfl (by kernel_rfl) (by kernel_rfl) (by kernel_rfl) (fun _ _ _ h => h) (Or.inl ⟨by kernel_rfl, ?h8⟩) HB9.out ?_
          case h8 => (intro W9 _; go_simp)
          go_simp
          refine wpAnyH_take (i := 9) (v := .agg #[.slice A7 n7 c7, .int .i64 room, .int .i64 (-1), .bool false]) rfl (by kernel_rfl) (by kernel_rfl) (by kernel_rfl) (fun _ _ _ h => h) (Or.inl ⟨by kernel_rfl, ?h9⟩) HB9.out ?_
          case h9 => (intro W9 _; go_simp)
          go_simp
          refine wpAnyH_take (i := 10) (v := .int .i64 e1) rfl (by kernel_rfl) (by kernel_rfl) (by kernel_rfl) (fun _ _ _ h => h) (Or.inl ⟨by kernel_rfl, ?h10⟩) HB9.out ?_
          case h10 => (intro W9 _; go_simp)
          go_simp
          refine wpAnyH_ready (rs := [12]) (by kernel_rfl) (by simp) ?_
          refine AllReadyH.cons rfl (fun K hK => ?_) AllReadyH.nil
          obtain ⟨u0, t0⟩ := block_cell HG9.out 0 (.slice none 0 0) rfl
          obtain ⟨u1, t1⟩ := block_cell HG9.out 1 (.int .i64 0) rfl
          obtain ⟨u2, t2⟩ := block_cell HG9.out 2 (.int .i64 0) rfl
          obtain ⟨u3, t3⟩ := block_cell HG9.out 3 (.bool false) rfl
          go_simp
          obtain ⟨W10, hW10⟩ : ∃ x, x = ((((W9.setCell ⟨W6.heap.size, 0, none⟩ (.slice A7 n7 c7)).setCell ⟨W6.heap.size, 1, none⟩ (.int .i64 room)).setCell ⟨W6.heap.size, 2, none⟩ (.int .i64 (-1))).setCell ⟨W6.heap.size, 3, none⟩ (.bool false)) := ⟨_, rfl⟩
          rw [← hW10]
          have HG10 : Hid (W10.heap[W6.heap.size]? = some (.cells #[.slice A7 n7 c7, .int .i64 room, .int .i64 (-1), .bool false] 24 (0, 0))) := Lib.hid (by rw [hW10]; exact heap_set4_self _ _ _ _ HG9.out)
          have HB10 : Hid (Below w3.heap.size w3 W10) := Lib.hid (by rw [hW10]; exact below_set4 HB9.out hgb _ _ _ _)
          refine hK.out _ _ HB10.out (fun _ => ?_)
          clear hK K
          have HA10 : Hid (disk.At W10 A7 n7 c7 f1 room) := Lib.hid ⟨by rw [hW10]; exact disk.sans_set HS9.out _ _ _ _, HL7.out, hm7, hc7, HP1.out⟩
          clear hW10 u0 u1 u2 u3 t0 t1 t2 t3
          refine wpAnyH_take (i := 13) (v := .int .i64 e1) rfl (by kernel_rfl) (by kernel_rfl) (by kernel_rfl) (fun _ _ _ h => h) (Or.inl ⟨by kernel_rfl, ?h13⟩) HB10.out ?_
          case h13 => (intro W9 _; go_simp)
          go_simp
          refine wpAnyH_done (by kernel_rfl) ?_ _
          go_wp2_with fail
          go_meet
          exact ⟨W6.heap.size, A7, n7, c7, rfl, rfl, HG10.out, HA10.out, HB10.out⟩
      · go_simp
        obtain ⟨W6, hW6⟩ : ∃ x, x = W5.alloc (.cells #[.slice none 0 0, .int .i64 0, .int .i64 0, .bool false] 24) := ⟨_, rfl⟩
        rw [← hW6]
        have hz5 : w3.heap.size ≤ W5.heap.size := HB5.out.size
        have HB6 : Hid (Below w3.heap.size w3 W6) := Lib.hid (by rw [hW6]; exact HB5.out.alloc hz5 _)
        refine hK.out _ _ HB6.out (fun _ => ?_)
        clear hK K
        have HG6 : Hid (W6.heap[W5.heap.size]? = some (.cells #[.slice none 0 0, .int .i64 0, .int .i64 0, .bool false] 24 (0, 0))) := Lib.hid (by rw [hW6]; exact heap_alloc_new W5 _)
        have hg13 : W5.heap.size < W6.heap.size := cell_block (block_cell HG6.out 0 _ rfl).1
        have hgw : w.heap.size ≤ W5.heap.size := Nat.le_trans hw3 hz5
        have hgb : w3.heap.size ≤ W5.heap.size := hz5
        have HO6 : Hid (OwnBys W6 w3.heap.size 5 (some ⟨W4.heap.size, 0, none⟩) 0 0 []) := Lib.hid (by rw [hW6]; exact OwnBys.alloc HO5.out _)
        have HE6 : Hid (∀ x, (Value.slice (some ⟨W4.heap.size, 0, none⟩) 0 0).ownBlock = some x → x ≠ W5.heap.size) := Lib.hid (fun x hx => by have := (OwnInts.block HO5.out x hx).2; omega)
        clear hW6
        refine wpAnyH_ready (rs := [4]) (by kernel_rfl) (by simp) ?_
        refine AllReadyH.cons rfl (fun K hK => ?_) AllReadyH.nil
        have hz6 : w3.heap.size ≤ W6.heap.size := HB6.out.size
        obtain ⟨A4, c4a, W7, hrun, hown, hgr, hgr2⟩ := disk.run_append_by (P := Try.prog) w3.heap.size 25 25 5 Try.underlying25 hinf.out HO6.out (HY3.out W6 (HWW.out W6 (HB3w.out.trans (HB6.out.mono HB3w.out.size)))) (m := n3) (c2 := c3) HKN3.out (by omega) hz6
        simp only [Nat.zero_add, List.nil_append] at hrun hown hgr2
        have hkeep : ∀ b, b < W6.heap.size → (∀ x, (Value.slice (some ⟨W4.heap.size, 0, none⟩) 0 0).ownBlock = some x → x ≠ b) → W7.heap[b]? = W6.heap[b]? := fun b hb hne => hgr.block b hb (fun hh => hne b hh.symm rfl)
        refine disk.step_append_runG (by kernel_rfl) _ _ 25 rfl _ _ (by rfl) (by rfl) hrun ?_
        have HB7 : Hid (Below w3.heap.size w3 W7) := Lib.hid (HB6.out.grown hgr hz6 (fun x hx => (OwnInts.block HO6.out x hx).1))
        refine hK.out _ _ HB7.out (fun _ => ?_)
        clear hK K
        have HO7 : Hid (OwnBys W7 w3.heap.size 5 A4 n3 c4a x3) := Lib.hid hown
        have HG7 : Hid (W7.heap[W5.heap.size]? = some (.cells #[.slice none 0 0, .int .i64 0, .int .i64 0, .bool false] 24 (0, 0))) := Lib.hid ((hkeep _ hg13 HE6.out).trans HG6.out)
        have HE7 : Hid (∀ x, (Value.slice A4 n3 c4a).ownBlock = some x → x ≠ W5.heap.size) := Lib.hid (disk.own_ne HE6.out hg13 hgr2)
        clear hg13 hgr2
        have hg13 : W5.heap.size < W7.heap.size := cell_block (block_cell HG7.out 0 _ rfl).1
        clear hrun hown hgr hkeep
        go_simp
        refine wpAnyH_ready (rs := [6]) (by kernel_rfl) (by simp) ?_
        refine AllReadyH.cons rfl (fun K hK => ?_) AllReadyH.nil
        have hz7 : w3.heap.size ≤ W7.heap.size := HB7.out.size
        obtain ⟨A6, c6a, W8, hrun, hown, hgr, hgr2⟩ := disk.run_append_by (P := Try.prog) w3.heap.size 25 25 5 Try.underlying25 hinf.out HO7.out (HY4.out W7 (HWW.out W7 (HB3w.out.trans (HB7.out.mono HB3w.out.size)))) (m := n4) (c2 := c4) HKN4.out (by omega) hz7
        have hkeep : ∀ b, b < W7.heap.size → (∀ x, (Value.slice A4 n3 c4a).ownBlock = some x → x ≠ b) → W8.heap[b]? = W7.heap[b]? := fun b hb hne => hgr.block b hb (fun hh => hne b hh.symm rfl)
        refine disk.step_append_runG (by kernel_rfl) _ _ 25 rfl _ _ (by rfl) (by rfl) hrun ?_
        have HB8 : Hid (Below w3.heap.size w3 W8) := Lib.hid (HB7.out.grown hgr hz7 (fun x hx => (OwnInts.block HO7.out x hx).1))
        refine hK.out _ _ HB8.out (fun _ => ?_)
        clear hK K
        have HO8 : Hid (OwnBys W8 w3.heap.size 5 A6 (n3 + n4) c6a (x3 ++ x4)) := Lib.hid hown
        have HG8 : Hid (W8.heap[W5.heap.size]? = some (.cells #[.slice none 0 0, .int .i64 0, .int .i64 0, .bool false] 24 (0, 0))) := Lib.hid ((hkeep _ hg13 HE7.out).trans HG7.out)
        have HE8 : Hid (∀ x, (Value.slice A6 (n3 + n4) c6a).ownBlock = some x → x ≠ W5.heap.size) := Lib.hid (disk.own_ne HE7.out hg13 hgr2)
        clear hg13 hgr2
        have hg13 : W5.heap.size < W8.heap.size := cell_block (block_cell HG8.out 0 _ rfl).1
        clear hrun hown hgr hkeep
        go_simp
        refine wpAnyH_ready (rs := [7]) (by kernel_rfl) (by simp) ?_
        refine AllReadyH.cons rfl (fun K hK => ?_) AllReadyH.nil
        have hcap6 := OwnInts.cap HO8.out
        go_simp
        go_wp2_with (refine Calls.mono (disk.append_off HD.out (HWW.out W8 (HB3w.out.trans (HB8.out.mono HB3w.out.size))) (g := W5.heap.size) hgw hg13 hs1 (disk.own_sans HO8.out HE8.out) (by rw [List.length_append, HKN3.out, HKN4.out]) hcap6.1 hcap6.2 (by omega) HR1.out) ?_; rintro e7 W9 ⟨A7, n7, c7, rfl, hs7, hl7, hm7, hc7, hb7⟩)
        have HS9 : Hid (disk.Sans W5.heap.size W9 A7 f1) := Lib.hid hs7
        have HG9 : Hid (W9.heap[W5.heap.size]? = some (.cells #[.slice none 0 0, .int .i64 0, .int .i64 0, .bool false] 24 (0, 0))) := Lib.hid ((hb7.block _ hg13).trans HG8.out)
        have HB9 : Hid (Below w3.heap.size w3 W9) := Lib.hid (HB8.out.trans (hb7.mono HB8.out.size))
        have HL7 := Lib.hid hl7
        clear hs7 hb7 hcap6 hl7
        refine hK.out _ _ HB9.out (fun _ => ?_)
        clear hK K
        go_simp
        refine wpAnyH_take (i := 8) (v := .tuple #[.agg #[.slice A7 n7 c7, .int .i64 room, .int .i64 (-1), .bool false], .int .i64 e1]) rfl (by kernel_rfl) (by kernel_rfl) (by kernel_rfl) (fun _ _ _ h => h) (Or.inl ⟨by kernel_rfl, ?h8⟩) HB9.out ?_
        case h8 => (intro W9 _; go_simp)
        go_simp
        refine wpAnyH_take (i := 9) (v := .agg #[.slice A7 n7 c7, .int .i64 room, .int .i64 (-1), .bool false]) rfl (by kernel_rfl) (by kernel_rfl) (by kernel_rfl) (fun _ _ _ h => h) (Or.inl ⟨by kernel_rfl, ?h9⟩) HB9.out ?_
        case h9 => (intro W9 _; go_simp)
        go_simp
        refine wpAnyH_take (i := 10) (v := .int .i64 e1) rfl (by kernel_rfl) (by kernel_rfl) (by kernel_rfl) (fun _ _ _ h => h) (Or.inl ⟨by kernel_rfl, ?h10⟩) HB9.out ?_
        case h10 => (intro W9 _; go_simp)
        go_simp
        refine wpAnyH_ready (rs := [12]) (by kernel_rfl) (by simp) ?_
        refine AllReadyH.cons rfl (fun K hK => ?_) AllReadyH.nil
        obtain ⟨u0, t0⟩ := block_cell HG9.out 0 (.slice none 0 0) rfl
        obtain ⟨u1, t1⟩ := block_cell HG9.out 1 (.int .i64 0) rfl
        obtain ⟨u2, t2⟩ := block_cell HG9.out 2 (.int .i64 0) rfl
        obtain ⟨u3, t3⟩ := block_cell HG9.out 3 (.bool false) rfl
        go_simp
        obtain ⟨W10, hW10⟩ : ∃ x, x = ((((W9.setCell ⟨W5.heap.size, 0, none⟩ (.slice A7 n7 c7)).setCell ⟨W5.heap.size, 1, none⟩ (.int .i64 room)).setCell ⟨W5.heap.size, 2, none⟩ (.int .i64 (-1))).setCell ⟨W5.heap.size, 3, none⟩ (.bool false)) := ⟨_, rfl⟩
        rw [← hW10]
        have HG10 : Hid (W10.heap[W5.heap.size]? = some (.cells #[.slice A7 n7 c7, .int .i64 room, .int .i64 (-1), .bool false] 24 (0, 0))) := Lib.hid (by rw [hW10]; exact heap_set4_self _ _ _ _ HG9.out)
        have HB10 : Hid (Below w3.heap.size w3 W10) := Lib.hid (by rw [hW10]; exact below_set4 HB9.out hgb _ _ _ _)
        refine hK.out _ _ HB10.out (fun _ => ?_)
        clear hK K
        have HA10 : Hid (disk.At W10 A7 n7 c7 f1 room) := Lib.hid ⟨by rw [hW10]; exact disk.sans_set HS9.out _ _ _ _, HL7.out, hm7, hc7, HP1.out⟩
        clear hW10 u0 u1 u2 u3 t0 t1 t2 t3
        refine wpAnyH_take (i := 13) (v := .int .i64 e1) rfl (by kernel_rfl) (by kernel_rfl) (by kernel_rfl) (fun _ _ _ h => h) (Or.inl ⟨by kernel_rfl, ?h13⟩) HB10.out ?_
        case h13 => (intro W9 _; go_simp)
        go_simp
        refine wpAnyH_done (by kernel_rfl) ?_ _
        go_wp2_with fail
        go_meet
        exact ⟨W5.heap.size, A7, n7, c7, rfl, rfl, HG10.out, HA10.out, HB10.out⟩
    · go_simp
      obtain ⟨W5, hW5⟩ : ∃ x, x = W4.alloc (.cells #[.slice none 0 0, .int .i64 0, .int .i64 0, .bool false] 24) := ⟨_, rfl⟩
      rw [← hW5]
      have hz4 : w3.heap.size ≤ W4.heap.size := HB4.out.size
      have HB5 : Hid (Below w3.heap.size w3 W5) := Lib.hid (by rw [hW5]; exact HB4.out.alloc hz4 _)
      refine hK.out _ _ HB5.out (fun _ => ?_)
      clear hK K
      have HG5 : Hid (W5.heap[W4.heap.size]? = some (.cells #[.slice none 0 0, .int .i64 0, .int .i64 0, .bool false] 24 (0, 0))) := Lib.hid (by rw [hW5]; exact heap_alloc_new W4 _)
      have hg13 : W4.heap.size < W5.heap.size := cell_block (block_cell HG5.out 0 _ rfl).1
      have hgw : w.heap.size ≤ W4.heap.size := Nat.le_trans hw3 hz4
      have hgb : w3.heap.size ≤ W4.heap.size := hz4
      clear hW5
      refine wpAnyH_ready (rs := [2]) (by kernel_rfl) (by simp) ?_
      refine AllReadyH.cons rfl (fun K hK => ?_) AllReadyH.nil
      go_simp
      obtain ⟨W6, hW6⟩ : ∃ x, x = W5.alloc (.cells #[] 5) := ⟨_, rfl⟩
      rw [← hW6]
      have hz5 : w3.heap.size ≤ W5.heap.size := HB5.out.size
      have HB6 : Hid (Below w3.heap.size w3 W6) := Lib.hid (by rw [hW6]; exact HB5.out.alloc hz5 _)
      refine hK.out _ _ HB6.out (fun _ => ?_)
      clear hK K
      have HO6 : Hid (OwnBys W6 w3.heap.size 5 (some ⟨W5.heap.size, 0, none⟩) 0 0 []) := Lib.hid (by rw [hW6]; exact disk.ownNewB hz5)
      have HG6 : Hid (W6.heap[W4.heap.size]? = some (.cells #[.slice none 0 0, .int .i64 0, .int .i64 0, .bool false] 24 (0, 0))) := Lib.hid (by rw [hW6]; exact (Below.heap_alloc _ _ _ hg13).trans HG5.out)
      have HE6 : Hid (∀ x, (Value.slice (some ⟨W5.heap.size, 0, none⟩) 0 0).ownBlock = some x → x ≠ W4.heap.size) := Lib.hid (fun x hx => by simp [Value.ownBlock] at hx; omega)
      clear hg13
      have hg13 : W4.heap.size < W6.heap.size := cell_block (block_cell HG6.out 0 _ rfl).1
      clear hW6
      refine wpAnyH_ready (rs := [4]) (by kernel_rfl) (by simp) ?_
      refine AllReadyH.cons rfl (fun K hK => ?_) AllReadyH.nil
      have hz6 : w3.heap.size ≤ W6.heap.size := HB6.out.size
      obtain ⟨A4, c4a, W7, hrun, hown, hgr, hgr2⟩ := disk.run_append_by (P := Try.prog) w3.heap.size 25 25 5 Try.underlying25 hinf.out HO6.out (HY3.out W6 (HWW.out W6 (HB3w.out.trans (HB6.out.mono HB3w.out.size)))) (m := n3) (c2 := c3) HKN3.out (by omega) hz6
      simp only [Nat.zero_add, List.nil_append] at hrun hown hgr2
      have hkeep : ∀ b, b < W6.heap.size → (∀ x, (Value.slice (some ⟨W5.heap.size, 0, none⟩) 0 0).ownBlock = some x → x ≠ b) → W7.heap[b]? = W6.heap[b]? := fun b hb hne => hgr.block b hb (fun hh => hne b hh.symm rfl)
      refine disk.step_append_runG (by kernel_rfl) _ _ 25 rfl _ _ (by rfl) (by rfl) hrun ?_
      have HB7 : Hid (Below w3.heap.size w3 W7) := Lib.hid (HB6.out.grown hgr hz6 (fun x hx => (OwnInts.block HO6.out x hx).1))
      refine hK.out _ _ HB7.out (fun _ => ?_)
      clear hK K
      have HO7 : Hid (OwnBys W7 w3.heap.size 5 A4 n3 c4a x3) := Lib.hid hown
      have HG7 : Hid (W7.heap[W4.heap.size]? = some (.cells #[.slice none 0 0, .int .i64 0, .int .i64 0, .bool false] 24 (0, 0))) := Lib.hid ((hkeep _ hg13 HE6.out).trans HG6.out)
      have HE7 : Hid (∀ x, (Value.slice A4 n3 c4a).ownBlock = some x → x ≠ W4.heap.size) := Lib.hid (disk.own_ne HE6.out hg13 hgr2)
      clear hg13 hgr2
      have hg13 : W4.heap.size < W7.heap.size := cell_block (block_cell HG7.out 0 _ rfl).1
      clear hrun hown hgr hkeep
      go_simp
      refine wpAnyH_ready (rs := [6]) (by kernel_rfl) (by simp) ?_
      refine AllReadyH.cons rfl (fun K hK => ?_) AllReadyH.nil
      have hz7 : w3.heap.size ≤ W7.heap.size := HB7.out.size
      obtain ⟨A6, c6a, W8, hrun, hown, hgr, hgr2⟩ := disk.run_append_by (P := Try.prog) w3.heap.size 25 25 5 Try.underlying25 hinf.out HO7.out (HY4.out W7 (HWW.out W7 (HB3w.out.trans (HB7.out.mono HB3w.out.size)))) (m := n4) (c2 := c4) HKN4.out (by omega) hz7
      have hkeep : ∀ b, b < W7.heap.size → (∀ x, (Value.slice A4 n3 c4a).ownBlock = some x → x ≠ b) → W8.heap[b]? = W7.heap[b]? := fun b hb hne => hgr.block b hb (fun hh => hne b hh.symm rfl)
      refine disk.step_append_runG (by kernel_rfl) _ _ 25 rfl _ _ (by rfl) (by rfl) hrun ?_
      have HB8 : Hid (Below w3.heap.size w3 W8) := Lib.hid (HB7.out.grown hgr hz7 (fun x hx => (OwnInts.block HO7.out x hx).1))
      refine hK.out _ _ HB8.out (fun _ => ?_)
      clear hK K
      have HO8 : Hid (OwnBys W8 w3.heap.size 5 A6 (n3 + n4) c6a (x3 ++ x4)) := Lib.hid hown
      have HG8 : Hid (W8.heap[W4.heap.size]? = some (.cells #[.slice none 0 0, .int .i64 0, .int .i64 0, .bool false] 24 (0, 0))) := Lib.hid ((hkeep _ hg13 HE7.out).trans HG7.out)
      have HE8 : Hid (∀ x, (Value.slice A6 (n3 + n4) c6a).ownBlock = some x → x ≠ W4.heap.size) := Lib.hid (disk.own_ne HE7.out hg13 hgr2)
      clear hg13 hgr2
      have hg13 : W4.heap.size < W8.heap.size := cell_block (block_cell HG8.out 0 _ rfl).1
      clear hrun hown hgr hkeep
      go_simp
      refine wpAnyH_ready (rs := [7]) (by kernel_rfl) (by simp) ?_
      refine AllReadyH.cons rfl (fun K hK => ?_) AllReadyH.nil
      have hcap6 := OwnInts.cap HO8.out
      go_simp
      go_wp2_with (refine Calls.mono (disk.append_off HD.out (HWW.out W8 (HB3w.out.trans (HB8.out.mono HB3w.out.size))) (g := W4.heap.size) hgw hg13 hs1 (disk.own_sans HO8.out HE8.out) (by rw [List.length_append, HKN3.out, HKN4.out]) hcap6.1 hcap6.2 (by omega) HR1.out) ?_; rintro e7 W9 ⟨A7, n7, c7, rfl, hs7, hl7, hm7, hc7, hb7⟩)
      have HS9 : Hid (disk.Sans W4.heap.size W9 A7 f1) := Lib.hid hs7
      have HG9 : Hid (W9.heap[W4.heap.size]? = some (.cells #[.slice none 0 0, .int .i64 0, .int .i64 0, .bool false] 24 (0, 0))) := Lib.hid ((hb7.block _ hg13).trans HG8.out)
      have HB9 : Hid (Below w3.heap.size w3 W9) := Lib.hid (HB8.out.trans (hb7.mono HB8.out.size))
      have HL7 := Lib.hid hl7
      clear hs7 hb7 hcap6 hl7
      refine hK.out _ _ HB9.out (fun _ => ?_)
      clear hK K
      go_simp
      refine wpAnyH_take (i := 8) (v := .tuple #[.agg #[.slice A7 n7 c7, .int .i64 room, .int .i64 (-1), .bool false], .int .i64 e1]) rfl (by kernel_rfl) (by kernel_rfl) (by kernel_rfl) (fun _ _ _ h => h) (Or.inl ⟨by kernel_rfl, ?h8⟩) HB9.out ?_
      case h8 => (intro W9 _; go_simp)
      go_simp
      refine wpAnyH_take (i := 9) (v := .agg #[.slice A7 n7 c7, .int .i64 room, .int .i64 (-1), .bool false]) rfl (by kernel_rfl) (by kernel_rfl) (by kernel_rfl) (fun _ _ _ h => h) (Or.inl ⟨by kernel_rfl, ?h9⟩) HB9.out ?_
      case h9 => (intro W9 _; go_simp)
      go_simp
      refine wpAnyH_take (i := 10) (v := .int .i64 e1) rfl (by kernel_rfl) (by kernel_rfl) (by kernel_rfl) (fun _ _ _ h => h) (Or.inl ⟨by kernel_rfl, ?h10⟩) HB9.out ?_
      case h10 => (intro W9 _; go_simp)
      go_simp
      refine wpAnyH_ready (rs := [12]) (by kernel_rfl) (by simp) ?_
      refine AllReadyH.cons rfl (fun K hK => ?_) AllReadyH.nil
      obtain ⟨u0, t0⟩ := block_cell HG9.out 0 (.slice none 0 0) rfl
      obtain ⟨u1, t1⟩ := block_cell HG9.out 1 (.int .i64 0) rfl
      obtain ⟨u2, t2⟩ := block_cell HG9.out 2 (.int .i64 0) rfl
      obtain ⟨u3, t3⟩ := block_cell HG9.out 3 (.bool false) rfl
      go_simp
      obtain ⟨W10, hW10⟩ : ∃ x, x = ((((W9.setCell ⟨W4.heap.size, 0, none⟩ (.slice A7 n7 c7)).setCell ⟨W4.heap.size, 1, none⟩ (.int .i64 room)).setCell ⟨W4.heap.size, 2, none⟩ (.int .i64 (-1))).setCell ⟨W4.heap.size, 3, none⟩ (.bool false)) := ⟨_, rfl⟩
      rw [← hW10]
      have HG10 : Hid (W10.heap[W4.heap.size]? = some (.cells #[.slice A7 n7 c7, .int .i64 room, .int .i64 (-1), .bool false] 24 (0, 0))) := Lib.hid (by rw [hW10]; exact heap_set4_self _ _ _ _ HG9.out)
      have HB10 : Hid (Below w3.heap.size w3 W10) := Lib.hid (by rw [hW10]; exact below_set4 HB9.out hgb _ _ _ _)
      refine hK.out _ _ HB10.out (fun _ => ?_)
      clear hK K
      have HA10 : Hid (disk.At W10 A7 n7 c7 f1 room) := Lib.hid ⟨by rw [hW10]; exact disk.sans_set HS9.out _ _ _ _, HL7.out, hm7, hc7, HP1.out⟩
      clear hW10 u0 u1 u2 u3 t0 t1 t2 t3
      refine wpAnyH_take (i := 13) (v := .int .i64 e1) rfl (by kernel_rfl) (by kernel_rfl) (by kernel_rfl) (fun _ _ _ h => h) (Or.inl ⟨by kernel_rfl, ?h13⟩) HB10.out ?_
      case h13 => (intro W9 _; go_simp)
      go_simp
      refine wpAnyH_done (by kernel_rfl) ?_ _
      go_wp2_with fail
      go_meet
      exact ⟨W4.heap.size, A7, n7, c7, rfl, rfl, HG10.out, HA10.out, HB10.out⟩
    -- R5 ENDS
  case rest =>
    obtain ⟨g13, A7, n7, c7, rfl, rfl, hg, hat, hbq⟩ := hcut
    obtain ⟨wq, hwq⟩ : ∃ x, x = wc := ⟨_, rfl⟩
    subst hwq
    have HBq : Hid (Below W0.heap.size W0 wq) := Lib.hid (HB3w.out.trans (hbq.mono HB3w.out.size))
    have HWq := Lib.hid (HWW.out wq HBq.out)
    have HG13 : Hid (∀ W, Below wq.heap.size wq W → W.heap[g13]? = some (.cells #[.slice A7 n7 c7, .int .i64 room, .int .i64 (-1), .bool false] 24 (0, 0))) := Lib.hid (fun W hb => (hb.block _ (cell_block (block_cell hg 0 _ rfl).1)).trans hg)
    have HA1 := Lib.hid hat
    clear hg hat hbq
    obtain ⟨z0, z1, z2, z3, zl⟩ := disk.cells4 (HBX.out wq HBq.out)
    go_wp2_with fail
    refine Calls.mono (disk.append_at HD.out HWq.out hs1 (HY3.out wq HWq.out) HWq.out.size HKN3.out HKC3.out HKM3.out (by omega) HR2.out HP2.out) ?_
    rintro e5 w5 ⟨A5, n5, c5, rfl, hat5, hb5⟩
    have HB5 : Hid (Below wq.heap.size wq w5) := Lib.hid hb5
    have HA2 := Lib.hid hat5
    have hsq5 : wq.heap.size ≤ w5.heap.size := HB5.out.size
    have HW5 : Hid (∀ o, Below w.heap.size w (w5.alloc o)) := Lib.hid (fun o => (HWq.out.trans (HB5.out.mono HWq.out.size)).alloc (Nat.le_trans HWq.out.size hsq5) o)
    clear hat5 hb5 z0 z1 z2 z3 zl
    go_wp2_with fail
    refine Calls.mono (disk.append_at HA2.out ((Below.refl _ _).alloc (Nat.le_refl _) _) hs1 (HY4.out _ (HW5.out _)) (HW5.out _).size HKN4.out HKC4.out HKM4.out (by omega) HR3.out HP3.out) ?_
    rintro e6 w6 ⟨A6, n6, c6, rfl, hat6, hb6⟩
    have HB6 : Hid (Below wq.heap.size wq w6) := Lib.hid ((HB5.out.alloc hsq5 _).trans (hb6.mono (by simp; omega)))
    have HA3 := Lib.hid hat6
    have hsq6 : wq.heap.size ≤ w6.heap.size := HB6.out.size
    clear hat6 hb6
    go_upto_region 8 with fail
    obtain ⟨w7, hw7⟩ : ∃ x, x = w6.alloc (.cells #[.slice A6 n6 c6, .int .i64 room, .int .i64 (-1), .bool false] 24) := ⟨_, rfl⟩
    rw [← hw7]
    have HB7 : Hid (Below wq.heap.size wq w7) := Lib.hid (by rw [hw7]; exact HB6.out.alloc hsq6 _)
    have HB67 : Hid (Below w6.heap.size w6 w7) := Lib.hid (by rw [hw7]; exact (Below.refl _ _).alloc (Nat.le_refl _) _)
    have HG17 : Hid (w7.heap[w6.heap.size]? = some (.cells #[.slice A6 n6 c6, .int .i64 room, .int .i64 (-1), .bool false] 24 (0, 0))) := Lib.hid (by rw [hw7]; exact heap_alloc_new w6 _)
    have HA7 : Hid (Below W0.heap.size W0 w7) := Lib.hid (HBq.out.trans (HB7.out.mono HBq.out.size))
    clear hw7
    go_cut [122] from 95 to 122 (fun v wx => v = .bool false ∧ Below w7.heap.size w7 wx)
    case first =>
      obtain ⟨y0, y1, y2, y3, yl⟩ := disk.cells4 (HG13.out w7 HB7.out)
      obtain ⟨x0, x1, x2, x3_, xl⟩ := disk.cells4 HG17.out
      by_cases h1 : e1 = 0
      · subst h1
        obtain ⟨rfl, rfl, h3⟩ := HJ.out.1 rfl
        have h4 : f3 = f1 := congrArg DiskD.files h3
        subst h4
        clear h3
        go_wp2_with fail
        refine Calls.mono (disk.same_at HA1.out HB7.out HA3.out HB67.out) ?_
        rintro e8 w8 ⟨rfl, hb8⟩
        go_wp2_with fail
        go_meet
        exact ⟨rfl, hb8⟩
      · have he1 : (e1 == 0) = false := by simpa using h1
        have he2 : (e1 != 0) = true := by simpa using h1
        have hno := HJ.out.2 h1
        by_cases h2 : e2 = 0
        · subst h2
          have he3 : (e3 == 0) = false := by simpa using (fun h => hno ⟨rfl, h⟩)
          clear hno h1
          go_wp2_with fail
          go_meet
          exact ⟨rfl, Below.refl _ _⟩
        · have he4 : (e2 == 0) = false := by simpa using h2
          clear hno h1 h2
          go_wp2_with fail
          go_meet
          exact ⟨rfl, Below.refl _ _⟩
    case rest =>
      obtain ⟨rfl, hb8⟩ := hcut
      obtain ⟨w8, hw8⟩ : ∃ x, x = wc := ⟨_, rfl⟩
      subst hw8
      have HB8 : Hid (Below W0.heap.size W0 w8) := Lib.hid (HA7.out.trans (hb8.mono HA7.out.size))
      have HW8 := Lib.hid (HWW.out w8 HB8.out)
      clear hb8 HJ HR1 HR2 HR3 HP1 HP2 HP3 HA1 HA2 HA3 HG13 HG17
      obtain ⟨z0, z1, z2, z3, zl⟩ := disk.cells4 (HBX.out w8 HB8.out)
      rcases disk.read_cases HP.out a1 with ⟨_, hr⟩ | ⟨_, _, hr⟩ | ⟨f, _, hl, hr⟩
      · have HR := Lib.hid hr
        clear hr
        go_wp2_with fail
        refine Calls.mono (disk.read_at HD.out HW8.out hs1 HR.out) ?_
        rintro e9 w9 ⟨A9, n9, c9, rfl, hy9, hl9, hn9, hc9, hb9⟩
        have HB9 : Hid (Below w.heap.size w w9) := Lib.hid (HW8.out.trans (hb9.mono HW8.out.size))
        clear hy9 hl9 hn9 hc9 hb9 z0 z1 z2 z3 zl
        go_wp2
        go_ret
        exact ⟨rfl, HB9.out⟩
      · have HR := Lib.hid hr
        clear hr
        go_wp2_with fail
        refine Calls.mono (disk.read_at HD.out HW8.out hs1 HR.out) ?_
        rintro e9 w9 ⟨A9, n9, c9, rfl, hy9, hl9, hn9, hc9, hb9⟩
        have HB9 : Hid (Below w.heap.size w w9) := Lib.hid (HW8.out.trans (hb9.mono HW8.out.size))
        clear hy9 hl9 hn9 hc9 hb9 z0 z1 z2 z3 zl
        go_wp2
        go_ret
        exact ⟨rfl, HB9.out⟩
      · have HR := Lib.hid hr
        have HLK := Lib.hid hl
        clear hr hl
        go_wp2_with fail
        refine Calls.mono (disk.read_at HD.out HW8.out hs1 HR.out) ?_
        rintro e9 w9 ⟨A9, n9, c9, rfl, hy9, hl9, hn9, hc9, hb9⟩
        have HB9 : Hid (Below W0.heap.size W0 w9) := Lib.hid (HB8.out.trans (hb9.mono HB8.out.size))
        have HW9 := Lib.hid (HWW.out w9 HB9.out)
        have HY9 : Hid (∀ W, Below w9.heap.size w9 W → Bys W w9.heap.size A9 f.data) := Lib.hid (fun W hb => hy9.below hb)
        have HL9 := Lib.hid hl9
        have HN9 := Lib.hid (And.intro hn9 hc9)
        clear hy9 hl9 hn9 hc9 hb9 z0 z1 z2 z3 zl
        obtain ⟨z0, z1, z2, z3, zl⟩ := disk.cells4 (HBX.out w9 HB9.out)
        obtain ⟨bs2, x2, hr2⟩ : ∃ bs x, disk.readD ⟨fs, room, -1, false⟩ a2 = (bs, x) := ⟨_, _, rfl⟩
        have HRR2 := Lib.hid hr2
        have hx2 : (x2 = 7 ∧ Hid (disk.named a2 = true ∧ disk.look a2 fs = none)) ∨ (x2 == 7) = false := by
          rcases disk.read_cases HP.out a2 with ⟨_, h⟩ | ⟨h1, h2, h⟩ | ⟨f', _, _, h⟩
          · rw [hr2] at h; injection h with _ h; subst h; exact .inr (by decide)
          · rw [hr2] at h; injection h with _ h; subst h; exact .inl ⟨rfl, Lib.hid ⟨h1, h2⟩⟩
          · rw [hr2] at h; injection h with _ h; subst h; exact .inr (by decide)
        clear hr2
        go_wp2_with fail
        refine Calls.mono (disk.read_at HD.out HW9.out hs2 HRR2.out) ?_
        rintro e10 w10 ⟨A10, n10, c10, rfl, hy10, hl10, hn10, hc10, hb10⟩
        have HB910 := Lib.hid hb10
        have HB10 : Hid (Below W0.heap.size W0 w10) := Lib.hid (HB9.out.trans (hb10.mono HB9.out.size))
        have HW10 := Lib.hid (HWW.out w10 HB10.out)
        clear hy10 hl10 hn10 hc10 hb10 z0 z1 z2 z3 zl
        go_upto_if 144 with fail
        go_cut [24] (fun _ wx => Below w10.heap.size w10 wx)
        case first =>
          rcases hx2 with ⟨rfl, HNL⟩ | hx7
          · obtain ⟨f4, e4, hr4, hp4⟩ := disk.plain_rename HP.out a1 a2
            have hrb := disk.rename_back HP.out HLK.out HNL.out.2 HNL.out.1
            rw [hr4] at hrb
            obtain ⟨h40, hr5⟩ := hrb
            simp only at h40 hr5
            subst h40
            have HR4 := Lib.hid hr4
            have HP4 := Lib.hid hp4
            have HR5 := Lib.hid hr5
            clear hr4 hp4 hr5
            obtain ⟨z0, z1, z2, z3, zl⟩ := disk.cells4 (HBX.out w10 HB10.out)
            go_wp2_with fail
            refine Calls.mono (disk.rename_at HD.out HW10.out hs1 hs2 HR4.out HP4.out) ?_
            rintro e11 w11 ⟨A11, n11, c11, rfl, hat11, hb11⟩
            have HB11 : Hid (Below w10.heap.size w10 w11) := Lib.hid hb11
            have HA11 := Lib.hid hat11
            have hs11 : w10.heap.size ≤ w11.heap.size := HB11.out.size
            clear hat11 hb11 z0 z1 z2 z3 zl
            go_wp2_with fail
            refine Calls.mono (disk.rename_at HA11.out ((Below.refl _ _).alloc (Nat.le_refl _) _) hs2 hs1 HR5.out HP.out) ?_
            rintro e12 w12 ⟨A12, n12, c12, rfl, hat12, hb12⟩
            have HB12 : Hid (Below w10.heap.size w10 w12) := Lib.hid ((HB11.out.alloc hs11 _).trans (hb12.mono (by simp; omega)))
            have HA12 := Lib.hid hat12
            have hs12 : w10.heap.size ≤ w12.heap.size := HB12.out.size
            have HX12 : Hid (Below W0.heap.size W0 w12) := Lib.hid (HB10.out.trans (HB12.out.mono HB10.out.size))
            clear hat12 hb12
            obtain ⟨z0, z1, z2, z3, zl⟩ := disk.cells4 (HBX.out w12 HX12.out)
            have HW12 : Hid (∀ o, Below w.heap.size w (w12.alloc o)) := Lib.hid (fun o => (HWW.out w12 HX12.out).alloc (HWW.out w12 HX12.out).size o)
            go_wp2_with fail
            refine Calls.mono (disk.same_at HA12.out ((Below.refl _ _).alloc (Nat.le_refl _) _) HD.out (HW12.out _)) ?_
            rintro e13 w13 ⟨rfl, hb13⟩
            have HB13 : Hid (Below w10.heap.size w10 w13) := Lib.hid ((HB12.out.alloc hs12 _).trans (hb13.mono (by simp; omega)))
            clear hb13
            go_wp2_with fail
            go_meet
            exact HB13.out
          · go_wp2_with fail
            go_meet
            exact Below.refl _ _
        case rest =>
          have HB14 : Hid (Below W0.heap.size W0 wc) := Lib.hid (HB10.out.trans (hcut.mono HB10.out.size))
          have HB914 : Hid (Below w9.heap.size w9 wc) := Lib.hid (HB910.out.trans (hcut.mono HB910.out.size))
          clear hcut hx2 HRR2 HR
          obtain ⟨w14, hw14⟩ : ∃ x, x = wc := ⟨_, rfl⟩
          subst hw14
          have HW14 := Lib.hid (HWW.out w14 HB14.out)
          obtain ⟨f6, e6, hr6, hp6⟩ := disk.plain_cut HP.out a1 a5
          have hcr := disk.cut_reads HP.out a5 HLK.out
          rw [hr6] at hcr
          simp only at hcr
          have HR6 := Lib.hid hr6
          have HP6 := Lib.hid hp6
          clear hr6 hp6
          obtain ⟨z0, z1, z2, z3, zl⟩ := disk.cells4 (HBX.out w14 HB14.out)
          rcases hcr with ⟨hrange, hcd⟩ | ⟨⟨h5a, h5b⟩, he6, _, hrd⟩
          · injection hcd with hcd1 hcd2
            subst hcd2
            have h4 : f6 = fs := congrArg DiskD.files hcd1
            subst h4
            rw [HL9.out] at hrange
            clear hcd1
            go_wp2_with fail
            refine Calls.mono (disk.cut_at HD.out HW14.out hs1 H5.out HR6.out HP6.out) ?_
            rintro e15 w15 ⟨A15, n15, c15, rfl, hat15, hb15⟩
            have HX15 : Hid (Below W0.heap.size W0 w15) := Lib.hid (HB14.out.trans (hb15.mono HB14.out.size))
            have HA15 := Lib.hid hat15
            clear hat15 hb15 z0 z1 z2 z3 zl
            obtain ⟨z0, z1, z2, z3, zl⟩ := disk.cells4 (HBX.out w15 HX15.out)
            have HW15 : Hid (∀ o, Below w.heap.size w (w15.alloc o)) := Lib.hid (fun o => (HWW.out w15 HX15.out).alloc (HWW.out w15 HX15.out).size o)
            have hcase : a5 < 0 ∨ (0 ≤ a5 ∧ (n9 : Int) < a5) := by omega
            clear hrange
            rcases hcase with hc1 | ⟨hc1, hc2⟩
            all_goals
              go_wp2_with fail
              refine Calls.mono (disk.same_at HA15.out ((Below.refl _ _).alloc (Nat.le_refl _) _) HD.out (HW15.out _)) ?_
              rintro e16 w16 ⟨rfl, hb16⟩
              have HB16 : Hid (Below w.heap.size w w16) := Lib.hid ((HW15.out _).trans (hb16.mono (HW15.out _).size))
              clear hb16
              go_wp2
              go_ret
              exact ⟨rfl, HB16.out⟩
          · subst he6
            obtain ⟨K, rfl⟩ : ∃ K : Nat, a5 = (K : Int) := ⟨a5.toNat, by omega⟩
            rw [Int.toNat_natCast] at hrd
            have hKn : K ≤ n9 := by have := HL9.out; omega
            have HRD := Lib.hid hrd
            have HPR : Hid (f.data.take K <+: f.data) := Lib.hid (List.take_prefix K f.data)
            have HTL : Hid ((f.data.take K).length = K) := Lib.hid (by rw [List.length_take, HL9.out]; omega)
            clear hrd h5a h5b
            go_wp2_with fail
            refine Calls.mono (disk.cut_at HD.out HW14.out hs1 H5.out HR6.out HP6.out) ?_
            rintro e15 w15 ⟨A15, n15, c15, rfl, hat15, hb15⟩
            have HB915 : Hid (Below w9.heap.size w9 w15) := Lib.hid (HB914.out.trans (hb15.mono HB914.out.size))
            have HX15 : Hid (Below w.heap.size w w15) := Lib.hid (HW14.out.trans (hb15.mono HW14.out.size))
            have HA15 := Lib.hid hat15
            have hs15 : w9.heap.size ≤ w15.heap.size := HB915.out.size
            have hs15w : w.heap.size ≤ w15.heap.size := HX15.out.size
            clear hat15 hb15 z0 z1 z2 z3 zl
            go_wp2_with fail
            refine Calls.mono (disk.read_at HA15.out ((Below.refl _ _).alloc (Nat.le_refl _) _) hs1 HRD.out) ?_
            rintro e16 w16 ⟨A16, n16, c16, rfl, hy16, hl16, hn16, hc16, hb16⟩
            obtain rfl : K = n16 := by rw [← hl16, HTL.out]
            have HB916 : Hid (Below w9.heap.size w9 w16) := Lib.hid ((HB915.out.alloc hs15 _).trans (hb16.mono (by simp; omega)))
            have HX16 : Hid (Below w.heap.size w w16) := Lib.hid ((HX15.out.alloc hs15w _).trans (hb16.mono (by simp; omega)))
            have HY16 := Lib.hid hy16
            clear hy16 hl16 hn16 hc16 hb16
            go_wp2_with fail
            refine Calls.mono (disk.begins_yes A9 A16 n9 c9 K c16 w16.heap.size f.data (f.data.take K) w16 ((HY9.out w16 HB916.out).more HB916.out.size) HY16.out HL9.out HTL.out HN9.out.1 HN9.out.2 HPR.out) ?_
            rintro e17 w17 ⟨rfl, m17, rfl⟩
            go_wp2
            go_ret
            exact ⟨rfl, below_drewN HX16.out _⟩

set_option maxRecDepth 100000 in
theorem lifted (os : Os) (started : os.Started) (H : Type) (enc : TypeId × Value → H) :
    ReturnsInHanded {} Try.checked os 7 .any (Rows.diskJoinsSpec.pre6 enc Try.prog Try.f7 Rows.diskJoinsRow.domain false) (Rows.diskJoinsSpec.post enc Try.prog Try.f7 false true false false) := by
  refine returnsInHanded_of_change (C := Try.checked) own started (by kernel_rfl) Try.func7
    (ChangeSpec.witness6 (enc := enc) (C := Try.checked) false ⟨#[], #[.agg #[.slice none 0 0, .int .i64 0, .int .i64 0, .bool false], .string ByteArray.empty, .string ByteArray.empty, .slice none 0 0, .slice none 0 0, .int .i64 0], []⟩ 8 (by kernel_rfl) (by kernel_rfl) (by kernel_rfl) (by kernel_rfl)) ?_
  intro W base args ds gs before hval0 hW hcnd _
  have hval : ∀ (j : Nat) t v, Try.f7.params[j]? = some t → args[j]? = some v → Value.okWide Try.prog W .any base t v := hval0
  have hW' := hW
  obtain ⟨p, q, hA0, hV, rfl, hfz, hnd⟩ := hW
  have hA : DataW.TrodAll enc Try.prog W 0 (fun _ => true) true Try.f7.params.toList args.toList ds p := hA0
  rw [Try.params7] at hA hval
  obtain ⟨v0, vs0, d0, ds0, p0_, q0, hargs, rfl, rfl, h0, r0⟩ := trodAll_cons hA
  obtain ⟨v1, vs1, d1, ds1, p1_, q1, rfl, rfl, rfl, h1, r1⟩ := trodAll_cons r0
  obtain ⟨v2, vs2, d2, ds2, p2_, q2, rfl, rfl, rfl, h2, r2⟩ := trodAll_cons r1
  obtain ⟨v3, vs3, d3, ds3, p3_, q3, rfl, rfl, rfl, h3, r3⟩ := trodAll_cons r2
  obtain ⟨v4, vs4, d4, ds4, p4_, q4, rfl, rfl, rfl, h4, r4⟩ := trodAll_cons r3
  obtain ⟨v5, vs5, d5, ds5, p5_, q5, rfl, rfl, rfl, h5, r5⟩ := trodAll_cons r4
  obtain ⟨rfl, rfl, rfl⟩ := trodAll_nil r5
  obtain rfl : args = #[v0, v1, v2, v3, v4, v5] := by cases args; simp_all
  obtain ⟨rfl, rfl⟩ := trodVars_none hV
  obtain ⟨cs0, rfl, hsz0⟩ := okWide_struct Try.underlying24 (hval 0 24 v0 rfl rfl)
  have k0 := h0
  have lt0 : ∀ x ∈ p0_, x.block < W.heap.size := by obtain ⟨m, hm⟩ := k0; exact DataW.trod_lt m _ _ _ hm
  obtain ⟨x0, w0⟩ := of_arg of_disk k0
  obtain ⟨a1, rfl, rfl, rfl, w1⟩ := open_string Try.underlying9 (hval 1 9 v1 rfl rfl) h1
  obtain ⟨a2, rfl, rfl, rfl, w2⟩ := open_string Try.underlying9 (hval 2 9 v2 rfl rfl) h2
  obtain ⟨p3, n3, c3, rfl⟩ := okWide_slice Try.underlying25 (hval 3 25 v3 rfl rfl)
  have k3 := h3
  have lt3 : ∀ x ∈ p3_, x.block < W.heap.size := by obtain ⟨m, hm⟩ := k3; exact DataW.trod_lt m _ _ _ hm
  obtain ⟨x3, w3⟩ := of_arg (of_bytes Try.underlying25 Try.underlying5 (by kernel_rfl)) k3
  obtain ⟨p4, n4, c4, rfl⟩ := okWide_slice Try.underlying25 (hval 4 25 v4 rfl rfl)
  have k4 := h4
  have lt4 : ∀ x ∈ p4_, x.block < W.heap.size := by obtain ⟨m, hm⟩ := k4; exact DataW.trod_lt m _ _ _ hm
  obtain ⟨x4, w4⟩ := of_arg (of_bytes Try.underlying25 Try.underlying5 (by kernel_rfl)) k4
  obtain ⟨a5, rfl, rfl, rfl, w5⟩ := open_int Try.underlying3 (hval 5 3 v5 rfl rfl) h5
  clear hA0 hval0
  refine (walk cs0 x0 a1 a2 p3 n3 c3 x3 p4 n4 c4 x4 a5 W w0 w1 w2 w3 w4 w5).mono fun e W' ⟨he, bel⟩ => ?_
  subst he
  exact ⟨_, rfl, _, _, _, [], _, [], hW', trodAll_mk1 (shut_bool Try.underlying4 _), (trodAll_cons_mk (Below.trod laidOut (by kernel_rfl) (of_decide_eq_true (by kernel_rfl)) k0 bel lt0) (trodAll_cons_mk (shut_string Try.underlying9 w1) (trodAll_cons_mk (shut_string Try.underlying9 w2) (trodAll_cons_mk (Below.trod laidOut (by kernel_rfl) (of_decide_eq_true (by kernel_rfl)) k3 bel lt3) (trodAll_cons_mk (Below.trod laidOut (by kernel_rfl) (of_decide_eq_true (by kernel_rfl)) k4 bel lt4) (trodAll_cons_mk (shut_int Try.underlying3 w5) trodAll_mk0)))))), rfl, bel.frame _, fun h => by cases h⟩

theorem over : Rows.diskJoinsRow.holds Try.pinned (OpenSpec.ofChange Rows.diskJoinsSpec) :=
  OpenClaim.holds_of_wide 7 Try.f7 rfl rfl rfl rfl rfl rfl rfl ⟨rfl, rfl, rfl, rfl, rfl⟩ rfl rfl rfl rfl rfl (by kernel_rfl) Try.func7 (by kernel_rfl)
    (of_decide_eq_true (by kernel_rfl)) (by unfold Func.isWrapper; first | (rw [if_pos (by decide +kernel)]; kernel_rfl) | (rw [if_neg (by decide +kernel)]; exact ⟨rfl, rfl⟩))
    (fun os started H enc _ => lifted os started H enc)

theorem proved : Rows.DiskJoinsSaid := over
#print axioms proved
end Go.Proofs.Ytaognhkjojkbbaa.diskJoins
