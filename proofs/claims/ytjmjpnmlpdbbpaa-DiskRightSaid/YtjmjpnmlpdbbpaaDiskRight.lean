/-
  PROVED: the law DiskRight answers true at every input, and leaves what it was given as it was.
  CONDITIONS: none.
-/
import Derived.Test.YtjmjpnmlpdbbpaaRows
import Derived.WalkKit
import Derived.ProofKit
import Derived.OpenShut
import Derived.ShutString
import Derived.ChangeOld
import Derived.Below
import Derived.Test.YtjmjpnmlpdbbpaaDiskRef8
import Derived.Test.YtjmjpnmlpdbbpaaDiskRef12c
import Derived.Test.YtjmjpnmlpdbbpaaDiskRef13
import Derived.Test.YtjmjpnmlpdbbpaaDiskImpl
import Derived.Test.YtjmjpnmlpdbbpaaDiskAwake
import Derived.Test.YtjmjpnmlpdbbpaaGiven
import Derived.Deep.DeepCutAuto
import Derived.Deep.DrawnRows
import Derived.Deep.RegionLaw
import Derived.Deep.RegionHeld
namespace Go.Proofs.Ytjmjpnmlpdbbpaa.diskRight
open Go.ChangeShapes Go.WideShapes Go.ChangeAt Go.RowKit
open Go.ChangeMaps (open_string shut_string)
set_option linter.unusedVariables false

theorem own : ownKnob Try.prog.godebug = none := by kernel_rfl
theorem laidOut : laidOutB Try.prog = true := by kernel_rfl

theorem cells4 {w : World} {g : Nat} {T : TypeId} {v0 v1 v2 v3 : Value} (h : w.heap[g]? = some (.cells #[v0, v1, v2, v3] T (0, 0))) : w.cell? ⟨g, 0, none⟩ = some v0 ∧ w.cell? ⟨g, 1, none⟩ = some v1 ∧ w.cell? ⟨g, 2, none⟩ = some v2 ∧ w.cell? ⟨g, 3, none⟩ = some v3 ∧ g < w.heap.size :=
  ⟨(block_cell h 0 v0 rfl).1, (block_cell h 1 v1 rfl).1, (block_cell h 2 v2 rfl).1, (block_cell h 3 v3 rfl).1, cell_block (block_cell h 0 v0 rfl).1⟩
theorem same_is (A A2 : Option Addr) (n c c2 : Nat) (room fuse : Int) (down : Bool) (fs : List FileD) (x : Int) (w : World) {own : List Nat} (hf : FilesIn w (Off own w) A fs) (hf2 : FilesIn w (Off own w) A2 fs) (hn : fs.length = n) (hc : n ≤ maxLen) :
    Calls Try.prog 15 #[.agg #[.slice A n c, .int .i64 room, .int .i64 fuse, .bool down], .int .i64 x, .agg #[.slice A2 n c2, .int .i64 room, .int .i64 fuse, .bool down], .int .i64 x] w fun e w' => e = .returned (.bool true) ∧ Below w.heap.size w w' := by
  have HB : Hid (∀ o p, Below w.heap.size w ((w.alloc o).alloc p)) := Lib.hid (fun o p => ((Below.refl _ _).alloc (Nat.le_refl _) o).alloc (by simp) p)
  have HF1 : Hid (Files w w.heap.size A fs) := Lib.hid (hf.more Off.lt)
  have HF2 : Hid (Files w w.heap.size A2 fs) := Lib.hid (hf2.more Off.lt)
  have HN := Lib.hid hn
  have HC := Lib.hid hc
  clear hf hf2 hn hc
  go_enter Try.func15, Try.ntmps15
  go_wp2_with fail
  refine Calls.mono (disk.rsame_yes A A2 n c c2 w.heap.size room fuse down fs _ (HB.out _ _).size (HF1.out.below (HB.out _ _)) (HF2.out.below (HB.out _ _)) HN.out HC.out) ?_
  rintro e w1 ⟨rfl, hb⟩
  have HB1 : Hid (Below w.heap.size w w1) := Lib.hid ((HB.out _ _).trans (hb.mono (HB.out _ _).size))
  clear hb
  go_wp2
  go_ret
  exact ⟨rfl, HB1.out⟩

attribute [local go_sem] undef
attribute [local go_sem ↓] Go.wp_at_zero Go.wp_at_succ

set_option maxRecDepth 100000 in
set_option maxHeartbeats 8000000 in
theorem walk (cs0 : Array Value) (x0 : DiskD) (a1 : ByteArray) (a2 : ByteArray) (p3 : Option Addr) (n3 c3 : Nat) (x3 : List Nat) (a4 : Int) (p5 : Option Addr) (n5 c5 : Nat) (x5 : List Int) (a6 : Int) (w : World) (w0 : rdDisk w (Lt w.heap.size) cs0.toList x0) (w1 : a1.size ≤ maxLen) (w2 : a2.size ≤ maxLen) (w3 : rdBytes w (Lt w.heap.size) [.slice p3 n3 c3] x3) (w4 : (Lit.int .i64 a4).wf = true) (w5 : (rdInts .i64) w (Lt w.heap.size) [.slice p5 n5 c5] x5) (w6 : (Lit.int .i64 a6).wf = true) :
    Calls Try.prog 3 #[.agg cs0, .string a1, .string a2, .slice p3 n3 c3, .int .i64 a4, .slice p5 n5 c5, .int .i64 a6] w fun e w' => e = .returned (.bool true) ∧ Below w.heap.size w w' := by
  have hm1 := w1
  have hm2 := w2
  clear w1 w2
  obtain ⟨fs, room, fuse, down⟩ := x0
  obtain ⟨A, n, c, he, hf0, hn, hnc, hcm, hr, hfu⟩ := w0
  simp only at he hf0 hn hr hfu
  obtain rfl : cs0 = #[.slice A n c, .int .i64 room, .int .i64 fuse, .bool down] := Array.toList_inj.1 he
  obtain ⟨q3, m3, k3, e3, hk3, hkn3, hkc3, hkm3⟩ := w3
  obtain ⟨rfl, rfl, rfl⟩ : p3 = q3 ∧ n3 = m3 ∧ c3 = k3 := by simpa using e3
  obtain ⟨q5, m5, k5, e5, hk5, hkn5, hkc5, hkm5⟩ := w5
  obtain ⟨rfl, rfl, rfl⟩ : p5 = q5 ∧ n5 = m5 ∧ c5 = k5 := by simpa using e5
  have HRI := Lib.hid (inI_of_wf hr)
  have HFU := Lib.hid (inI_of_wf hfu)
  have H4 := Lib.hid (inI_of_wf w4)
  have H6 := Lib.hid (inI_of_wf w6)
  have HN := Lib.hid hn
  have HNC := Lib.hid hnc
  have HCM := Lib.hid hcm
  have HKN3 := Lib.hid hkn3; have HKC3 := Lib.hid hkc3; have HKM3 := Lib.hid hkm3
  have HKN5 := Lib.hid hkn5; have HKC5 := Lib.hid hkc5; have HKM5 := Lib.hid hkm5
  have HFo : Hid (∀ (W : World) (own : List Nat), Below w.heap.size w W → (∀ g ∈ own, w.heap.size ≤ g) → FilesIn W (Off own W) A fs) := Lib.hid (fun W own hb ho => hf0.given hb ho)
  have HFS : Hid (∀ W, Below w.heap.size w W → Files W W.heap.size A fs) := Lib.hid (fun W hb => (hf0.below (fun _ h => h) hb).more (fun b h => Nat.lt_of_lt_of_le h hb.size))
  have HK3 : Hid (∀ (W : World) (own : List Nat), Below w.heap.size w W → (∀ g ∈ own, w.heap.size ≤ g) → BysIn W (Off own W) p3 x3) := Lib.hid (fun W own hb ho => IntsIn.given hk3 hb ho)
  have HK5 : Hid (∀ (W : World) (own : List Nat), Below w.heap.size w W → (∀ g ∈ own, w.heap.size ≤ g) → IntsIn .i64 W (Off own W) p5 x5) := Lib.hid (fun W own hb ho => IntsIn.given hk5 hb ho)
  clear hr hfu hn hnc hcm hkn3 hkc3 hkm3 hkn5 hkc5 hkm5 he e3 e5 hf0 hk3 hk5 w4 w6
  obtain ⟨W0, HW0⟩ : ∃ W, Hid (w.alloc (.cells #[.slice A n c, .int .i64 room, .int .i64 fuse, .bool down] 24) = W) := ⟨_, Lib.hid rfl⟩
  have HBW : Hid (Below w.heap.size w W0) := Lib.hid (by rw [← HW0.out]; exact (Below.refl _ _).alloc (Nat.le_refl _) _)
  have hW0s : w.heap.size < W0.heap.size := by rw [← HW0.out]; simp
  have HBX : Hid (∀ W, Below W0.heap.size W0 W → W.heap[w.heap.size]? = some (.cells #[.slice A n c, .int .i64 room, .int .i64 fuse, .bool down] 24 (0, 0))) := Lib.hid (fun W hb => by rw [← HW0.out] at hb; exact (hb.block _ (by simp)).trans (heap_alloc_new w _))
  have HWW : Hid (∀ W, Below W0.heap.size W0 W → Below w.heap.size w W) := Lib.hid (fun W hb => HBW.out.trans (hb.mono HBW.out.size))
  obtain ⟨sh, HSHB⟩ : ∃ sh, Hid (disk.shortB fs = sh) := ⟨_, Lib.hid rfl⟩
  go_enter Try.func3, Try.ntmps3
  go_wp2_with fail
  rw [HW0.out]
  refine Calls.mono (disk.awake_any W0) ?_
  rintro e w1 ⟨rfl, hb1⟩
  have HB1 : Hid (Below W0.heap.size W0 w1) := Lib.hid hb1
  obtain ⟨z0, z1, z2, z3, zl⟩ := cells4 (HBX.out w1 HB1.out)
  clear hb1
  go_wp2_with fail
  refine Calls.mono (by have hh := disk.rshort A n c room fuse down fs w1 (HFS.out w1 (HWW.out w1 HB1.out)) HN.out (Nat.le_trans HNC.out HCM.out); rw [HSHB.out] at hh; exact hh) ?_
  rintro e w2 ⟨rfl, hb2⟩
  have HB2 : Hid (Below W0.heap.size W0 w2) := Lib.hid (HB1.out.trans (hb2.mono HB1.out.size))
  have HQ2 := Lib.hid (HWW.out w2 HB2.out)
  clear hb2 z0 z1 z2 z3 zl
  rcases sh with _ | _
  · go_wp2
    go_ret
    exact ⟨rfl, HQ2.out⟩
  by_cases g1 : 100 < a1.size
  · go_wp2
    go_ret
    exact ⟨rfl, HQ2.out⟩
  by_cases g2 : 100 < a2.size
  · go_wp2
    go_ret
    exact ⟨rfl, HQ2.out⟩
  by_cases g3 : 70000 < n3
  · go_wp2
    go_ret
    exact ⟨rfl, HQ2.out⟩
  by_cases g5 : 80 < n5
  · go_wp2
    go_ret
    exact ⟨rfl, HQ2.out⟩
  have hs1 : a1.size ≤ 100 := by omega
  have hs2 : a2.size ≤ 100 := by omega
  have hs3 : n3 ≤ 70000 := by omega
  have hs5 : n5 ≤ 80 := by omega
  have HSH : Hid (disk.shortB fs = true) := HSHB
  have hsi := disk.short_iff.1 HSH.out
  have HN6 : Hid (n ≤ 1000000) := Lib.hid (by have := HN.out; omega)
  have HUS : Hid (disk.used fs ≤ 100000) := Lib.hid (by omega)
  have HDL : Hid (∀ f ∈ fs, f.data.length ≤ 100000) := Lib.hid (fun f hf => by have := (hsi.2.1 f hf).1; omega)
  obtain ⟨v, HV⟩ : ∃ v, Hid (disk.rightB ⟨fs, room, fuse, down⟩ = v) := ⟨_, Lib.hid rfl⟩
  obtain ⟨u, HU⟩ : ∃ u, Hid (disk.used fs = u) := ⟨_, Lib.hid rfl⟩
  have HRI_ : Hid (∀ W, Below w.heap.size w W → Calls Try.prog 10 #[.agg #[.slice A n c, .int .i64 room, .int .i64 fuse, .bool down]] W fun e w' => e = .returned (.bool v) ∧ Below W.heap.size W w') := Lib.hid (fun W hb => disk.dright A n c room fuse down fs v (Lt W.heap.size) W (fun _ h => h) (HFS.out W hb) HN.out HNC.out HCM.out HRI.out HFU.out HSH.out HV.out)
  have HRR_ : Hid (∀ W, Below w.heap.size w W → Calls Try.prog 11 #[.agg #[.slice A n c, .int .i64 room, .int .i64 fuse, .bool down]] W fun e w' => e = .returned (.bool v) ∧ Below W.heap.size W w') := Lib.hid (fun W hb => by have hh := disk.rright A n c room fuse down fs W (HFS.out W hb) HN.out (Nat.le_trans HNC.out HCM.out) HRI.out HFU.out; rw [HV.out] at hh; exact hh)
  have HUI_ : Hid (∀ W, Below w.heap.size w W → Calls Try.prog 12 #[.agg #[.slice A n c, .int .i64 room, .int .i64 fuse, .bool down]] W fun e w' => e = .returned (.int .i64 (u : Nat)) ∧ Below W.heap.size W w') := Lib.hid (fun W hb => disk.dused A n c room fuse down fs u (Lt W.heap.size) W (fun _ h => h) (HFS.out W hb) HN.out HNC.out HCM.out HRI.out HFU.out HSH.out HU.out)
  have HUR_ : Hid (∀ W, Below w.heap.size w W → Calls Try.prog 13 #[.agg #[.slice A n c, .int .i64 room, .int .i64 fuse, .bool down]] W fun e w' => e = .returned (.int .i64 (u : Nat)) ∧ Below W.heap.size W w') := Lib.hid (fun W hb => by have hh := disk.rused A n c room fuse down fs W (HFS.out W hb) HN.out (Nat.le_trans HNC.out HCM.out) (by have := HUS.out; omega); rw [HU.out] at hh; exact hh)
  obtain ⟨⟨⟨F1, rm1, fz1, dn1⟩, x1⟩, HV1⟩ : ∃ r, Hid (disk.appendD ⟨fs, room, fuse, down⟩ a1 x3 = r) := ⟨_, Lib.hid rfl⟩
  obtain ⟨⟨⟨F2, rm2, fz2, dn2⟩, x2⟩, HV2⟩ : ∃ r, Hid (disk.syncD ⟨fs, room, fuse, down⟩ a1 = r) := ⟨_, Lib.hid rfl⟩
  obtain ⟨⟨⟨F3, rm3, fz3, dn3⟩, x3_⟩, HV3⟩ : ∃ r, Hid (disk.renameD ⟨fs, room, fuse, down⟩ a1 a2 = r) := ⟨_, Lib.hid rfl⟩
  obtain ⟨⟨⟨F4, rm4, fz4, dn4⟩, x4⟩, HV4⟩ : ∃ r, Hid (disk.removeD ⟨fs, room, fuse, down⟩ a1 = r) := ⟨_, Lib.hid rfl⟩
  obtain ⟨⟨⟨F5, rm5, fz5, dn5⟩, x5_⟩, HV5⟩ : ∃ r, Hid (disk.cutD ⟨fs, room, fuse, down⟩ a1 a4 = r) := ⟨_, Lib.hid rfl⟩
  obtain ⟨⟨⟨F6, rm6, fz6, dn6⟩, x6⟩, HV6⟩ : ∃ r, Hid (disk.backD ⟨fs, room, fuse, down⟩ x5 a4 = r) := ⟨_, Lib.hid rfl⟩
  obtain ⟨⟨L, y⟩, HVR⟩ : ∃ r, Hid (disk.readD ⟨fs, room, fuse, down⟩ a1 = r) := ⟨_, Lib.hid rfl⟩
  clear hsi
  go_upto_region 5 with fail
  go_cut [59] (fun s59 wx => s59 = .bool false ∧ Below w2.heap.size w2 wx)
  case first =>
    -- R5 BEGINS
    refine wp_region_held_drew (S := fun W => Below w2.heap.size w2 W) (by kernel_rfl) (Below.refl _ _).drew (fun _ => ?_)
    obtain ⟨W10, hW10⟩ : ∃ x, x = w2.drew := ⟨_, rfl⟩
    rw [← hW10]
    have HR10 : Hid (Below w2.heap.size w2 W10) := Lib.hid (by rw [hW10]; exact (Below.refl _ _).drew)
    clear hW10
    refine wpAnyH_take (i := 0) (v := .agg #[.slice A n c, .int .i64 room, .int .i64 fuse, .bool down]) rfl (by kernel_rfl) (by kernel_rfl) (by kernel_rfl) (fun _ _ _ h => h) (Or.inl ⟨by kernel_rfl, ?h0⟩) HR10.out ?_
    case h0 => (intro W9 hW9; obtain ⟨v0, v1, v2, v3, vl⟩ := cells4 (HBX.out W9 (HB2.out.trans ((show Below w2.heap.size w2 W9 from hW9).mono HB2.out.size))); go_simp)
    go_simp
    refine wpAnyH_take (i := 2) (v := .agg #[.slice A n c, .int .i64 room, .int .i64 fuse, .bool down]) rfl (by kernel_rfl) (by kernel_rfl) (by kernel_rfl) (fun _ _ _ h => h) (Or.inl ⟨by kernel_rfl, ?h2⟩) HR10.out ?_
    case h2 => (intro W9 hW9; obtain ⟨v0, v1, v2, v3, vl⟩ := cells4 (HBX.out W9 (HB2.out.trans ((show Below w2.heap.size w2 W9 from hW9).mono HB2.out.size))); go_simp)
    go_simp
    refine wpAnyH_ready (rs := [1]) (by kernel_rfl) (by simp) ?_
    refine AllReadyH.cons rfl (fun K hK => ?_) AllReadyH.nil
    go_simp
    go_wp2_with (refine Calls.mono (HRI_.out W10 (HWW.out W10 (HB2.out.trans (HR10.out.mono HB2.out.size)))) ?_; rintro e11 W11 ⟨rfl, hb11⟩)
    have HR11 : Hid (Below w2.heap.size w2 W11) := Lib.hid (HR10.out.trans (hb11.mono HR10.out.size))
    clear hb11
    refine hK.out _ _ HR11.out (fun _ => ?_)
    clear hK K
    go_simp
    refine wpAnyH_ready (rs := [3]) (by kernel_rfl) (by simp) ?_
    refine AllReadyH.cons rfl (fun K hK => ?_) AllReadyH.nil
    go_simp
    go_wp2_with (refine Calls.mono (HRR_.out W11 (HWW.out W11 (HB2.out.trans (HR11.out.mono HB2.out.size)))) ?_; rintro e12 W12 ⟨rfl, hb12⟩)
    have HR12 : Hid (Below w2.heap.size w2 W12) := Lib.hid (HR11.out.trans (hb12.mono HR11.out.size))
    clear hb12
    refine hK.out _ _ HR12.out (fun _ => ?_)
    clear hK K
    go_simp
    refine wpAnyH_take (i := 4) (v := .bool false) rfl (by kernel_rfl) (by kernel_rfl) (by kernel_rfl) (fun _ _ _ h => h) (Or.inl ⟨by kernel_rfl, ?h4⟩) HR12.out ?_
    case h4 => (intro W9 _; go_simp)
    go_simp
    refine wpAnyH_take (i := 5) (v := .bool false) rfl (by kernel_rfl) (by kernel_rfl) (by kernel_rfl) (fun _ _ _ h => h) (Or.inl ⟨by kernel_rfl, ?h5⟩) HR12.out ?_
    case h5 => (intro W9 _; go_simp)
    go_simp
    refine wpAnyH_take (i := 6) (v := .agg #[.slice A n c, .int .i64 room, .int .i64 fuse, .bool down]) rfl (by kernel_rfl) (by kernel_rfl) (by kernel_rfl) (fun _ _ _ h => h) (Or.inl ⟨by kernel_rfl, ?h6⟩) HR12.out ?_
    case h6 => (intro W9 hW9; obtain ⟨v0, v1, v2, v3, vl⟩ := cells4 (HBX.out W9 (HB2.out.trans ((show Below w2.heap.size w2 W9 from hW9).mono HB2.out.size))); go_simp)
    go_simp
    refine wpAnyH_take (i := 8) (v := .agg #[.slice A n c, .int .i64 room, .int .i64 fuse, .bool down]) rfl (by kernel_rfl) (by kernel_rfl) (by kernel_rfl) (fun _ _ _ h => h) (Or.inl ⟨by kernel_rfl, ?h8⟩) HR12.out ?_
    case h8 => (intro W9 hW9; obtain ⟨v0, v1, v2, v3, vl⟩ := cells4 (HBX.out W9 (HB2.out.trans ((show Below w2.heap.size w2 W9 from hW9).mono HB2.out.size))); go_simp)
    go_simp
    refine wpAnyH_ready (rs := [7]) (by kernel_rfl) (by simp) ?_
    refine AllReadyH.cons rfl (fun K hK => ?_) AllReadyH.nil
    go_simp
    go_wp2_with (refine Calls.mono (HUI_.out W12 (HWW.out W12 (HB2.out.trans (HR12.out.mono HB2.out.size)))) ?_; rintro e13 W13 ⟨rfl, hb13⟩)
    have HR13 : Hid (Below w2.heap.size w2 W13) := Lib.hid (HR12.out.trans (hb13.mono HR12.out.size))
    clear hb13
    refine hK.out _ _ HR13.out (fun _ => ?_)
    clear hK K
    go_simp
    refine wpAnyH_ready (rs := [9]) (by kernel_rfl) (by simp) ?_
    refine AllReadyH.cons rfl (fun K hK => ?_) AllReadyH.nil
    go_simp
    go_wp2_with (refine Calls.mono (HUR_.out W13 (HWW.out W13 (HB2.out.trans (HR13.out.mono HB2.out.size)))) ?_; rintro e14 W14 ⟨rfl, hb14⟩)
    have HR14 : Hid (Below w2.heap.size w2 W14) := Lib.hid (HR13.out.trans (hb14.mono HR13.out.size))
    clear hb14
    refine hK.out _ _ HR14.out (fun _ => ?_)
    clear hK K
    go_simp
    refine wpAnyH_take (i := 10) (v := .bool false) rfl (by kernel_rfl) (by kernel_rfl) (by kernel_rfl) (fun _ _ _ h => h) (Or.inl ⟨by kernel_rfl, ?h10⟩) HR14.out ?_
    case h10 => (intro W9 _; go_simp)
    go_simp
    refine wpAnyH_take (i := 11) (v := .bool false) rfl (by kernel_rfl) (by kernel_rfl) (by kernel_rfl) (fun _ _ _ h => h) (Or.inl ⟨by kernel_rfl, ?h11⟩) HR14.out ?_
    case h11 => (intro W9 _; go_simp)
    go_simp
    refine wpAnyH_done (by kernel_rfl) ?_ _
    go_wp2_with fail
    go_meet
    exact ⟨rfl, HR14.out⟩
    -- R5 ENDS
  case rest =>
    obtain ⟨rfl, hbc⟩ := hcut
    obtain ⟨w3, hw3⟩ : ∃ x, x = wc := ⟨_, rfl⟩
    subst hw3
    have HB3 : Hid (Below W0.heap.size W0 w3) := Lib.hid (HB2.out.trans (hbc.mono HB2.out.size))
    clear hbc HRI_ HRR_ HUI_ HUR_ HV HU
    obtain ⟨F0, rm0, fz0, dn0, x0, q, HNEW, hF0, hcase⟩ : ∃ F0 rm0 fz0 dn0 x0, ∃ q : Bool, Hid (disk.newD a6 = (⟨F0, rm0, fz0, dn0⟩, x0)) ∧ F0 = [] ∧ ((q = true ∧ 0 ≤ a6 ∧ a6 ≤ 65536 ∧ rm0 = a6 ∧ fz0 = -1 ∧ dn0 = false ∧ x0 = 0) ∨ (q = false ∧ (a6 < 0 ∨ (0 ≤ a6 ∧ 65536 < a6)) ∧ rm0 = 0 ∧ fz0 = 0 ∧ dn0 = false ∧ x0 = 1)) := by
      by_cases h : 0 ≤ a6 ∧ a6 ≤ 65536
      · exact ⟨[], a6, -1, false, 0, true, Lib.hid (by unfold disk.newD; rw [if_pos h]), rfl, .inl ⟨rfl, h.1, h.2, rfl, rfl, rfl, rfl⟩⟩
      · exact ⟨[], 0, 0, false, 1, false, Lib.hid (by unfold disk.newD; rw [if_neg h]), rfl, .inr ⟨rfl, by omega, rfl, rfl, rfl, rfl⟩⟩
    subst hF0
    go_wp2_with fail
    refine Calls.mono (disk.dnew a6 _ (fun _ => False) w3 H6.out HNEW.out) ?_
    rintro e w4 ⟨A4, n4, c4, rfl, hr4, hl4, hm4, hc4, hg4⟩
    obtain rfl : 0 = n4 := hl4.out
    have HB4 : Hid (Below W0.heap.size W0 w4) := Lib.hid (HB3.out.trans (hg4.mono HB3.out.size))
    have h15 : W0.heap.size ≤ w4.heap.size := HB4.out.size
    have how1 : ∀ g ∈ [w4.heap.size], w.heap.size ≤ g := by intro g hg; simp at hg; omega
    clear hr4 hl4 hg4
    have HCASE := Lib.hid hcase
    clear hcase
    go_upto_region 8 with fail
    obtain ⟨wq4, hwq⟩ : ∃ x, x = w4.alloc (.cells #[.slice A4 0 c4, .int .i64 rm0, .int .i64 fz0, .bool dn0] 24) := ⟨_, rfl⟩
    rw [← hwq]
    have HBq4 : Hid (Below W0.heap.size W0 wq4) := Lib.hid (by rw [hwq]; exact HB4.out.alloc h15 _)
    have EQ4 : Hid (wq4.heap[w4.heap.size]? = some (.cells #[.slice A4 0 c4, .int .i64 rm0, .int .i64 fz0, .bool dn0] 24 (0, 0))) := Lib.hid (by rw [hwq]; exact heap_alloc_new w4 _)
    clear hwq
    go_cut [70] from 65 to 70 (fun v wx => v = .bool q ∧ Below wq4.heap.size wq4 wx)
    case first =>
      rcases HCASE.out with ⟨rfl, g6, g7, hh⟩ | ⟨rfl, g6 | ⟨g6, g7⟩, hh⟩
      all_goals
        clear hh
        go_wp2_with fail
        go_meet
        first
        | exact ⟨rfl, Below.refl _ _⟩
        | exact ⟨by rw [show decide (a6 ≤ 65536) = false by simp; omega], Below.refl _ _⟩
        | exact Below.refl _ _
        | ((repeat apply Exists.intro); exact ⟨⟨rfl, Below.refl _ _⟩, rfl⟩)
        | ((repeat apply Exists.intro); exact ⟨Below.refl _ _, rfl⟩)
    case rest =>
    obtain ⟨rfl, hbcq⟩ := hcut
    obtain ⟨wq6, hwq6⟩ : ∃ x, x = wc := ⟨_, rfl⟩
    subst hwq6
    have HBq6 : Hid (Below W0.heap.size W0 wq6) := Lib.hid (HBq4.out.trans (hbcq.mono HBq4.out.size))
    have EQ6 : Hid (wq6.heap[w4.heap.size]? = some (.cells #[.slice A4 0 c4, .int .i64 rm0, .int .i64 fz0, .bool dn0] 24 (0, 0))) := Lib.hid ((hbcq.block _ (cells4 EQ4.out).2.2.2.2).trans EQ4.out)
    clear hbcq
    go_upto_if 70 with fail
    go_cut [71] (fun _ wx => Below wq6.heap.size wq6 wx)
    case first =>
      obtain ⟨y0, y1, y2, y3, yl⟩ := cells4 EQ6.out
      rcases HCASE.out with ⟨rfl, _, _, rfl, rfl, rfl, rfl⟩ | ⟨rfl, _, rfl, rfl, rfl, rfl⟩
      all_goals
        go_wp2_with fail
        refine Calls.mono (same_is A4 none 0 c4 0 _ _ false [] _ wq6 (own := []) (Files.nil _ _ _) (Files.nil _ _ _) rfl (Nat.zero_le _)) ?_
        rintro e w5 ⟨rfl, hb5⟩
        go_wp2_with fail
        go_meet
        exact hb5
    case rest =>
      obtain ⟨wq5, hwq5⟩ : ∃ x, x = wc := ⟨_, rfl⟩
      subst hwq5
      have HB_wq5 : Hid (Below W0.heap.size W0 wq5) := Lib.hid (HBq6.out.trans (hcut.mono HBq6.out.size))
      have E15_wq5 : Hid (wq5.heap[w4.heap.size]? = some (.cells #[.slice A4 0 c4, .int .i64 rm0, .int .i64 fz0, .bool dn0] 24 (0, 0))) := Lib.hid ((hcut.block _ (cells4 EQ6.out).2.2.2.2).trans EQ6.out)
      clear hcut HCASE HNEW EQ4 EQ6
      -- OPS BEGINS
      obtain ⟨z0, z1, z2, z3, zl⟩ := cells4 (HBX.out wq5 HB_wq5.out)
      go_wp2_with fail
      refine Calls.mono (disk.dappend A n c room fuse down a1 p3 n3 c3 x3 fs _ (Off [w4.heap.size] wq5) wq5 Off.lt (HFo.out wq5 [w4.heap.size] (HWW.out wq5 HB_wq5.out) how1) HN.out HNC.out HCM.out HRI.out HFU.out HSH.out hs1 (HK3.out wq5 [w4.heap.size] (HWW.out wq5 HB_wq5.out) how1) HKN3.out HKC3.out HKM3.out hs3 HV1.out) ?_
      rintro ea wa1 ⟨Aa1, na1, ca1, rfl, hra, hla, hma, hca, hga⟩
      have HB_wa1 : Hid (Below W0.heap.size W0 wa1) := Lib.hid (HB_wq5.out.trans (hga.mono HB_wq5.out.size))
      have E15_wa1 : Hid (wa1.heap[w4.heap.size]? = some (.cells #[.slice A4 0 c4, .int .i64 rm0, .int .i64 fz0, .bool dn0] 24 (0, 0))) := Lib.hid ((hga.block _ (cells4 E15_wq5.out).2.2.2.2).trans E15_wq5.out)
      have HFa : Hid (FilesIn wa1 (Off [w4.heap.size] wa1) Aa1 F1) := Lib.hid (hra.ret (by intro g hg; simp at hg; subst hg; exact (cells4 E15_wq5.out).2.2.2.2) hga.size)
      have HLa : Hid (F1.length = na1 ∧ na1 ≤ ca1 ∧ ca1 ≤ maxLen) := Lib.hid ⟨hla.out, hma, hca⟩
      clear hra hla hma hca hga z0 z1 z2 z3 zl
      obtain ⟨z0, z1, z2, z3, zl⟩ := cells4 (HBX.out wa1 HB_wa1.out)
      obtain ⟨s0, t0⟩ := block_cell E15_wa1.out 0 _ rfl
      obtain ⟨s1, t1⟩ := block_cell E15_wa1.out 1 _ rfl
      obtain ⟨s2, t2⟩ := block_cell E15_wa1.out 2 _ rfl
      obtain ⟨s3, t3⟩ := block_cell E15_wa1.out 3 _ rfl
      go_wp2_with fail
      obtain ⟨wb1, hwb⟩ : ∃ x, x = ((((wa1.setCell ⟨w4.heap.size, 0, none⟩ (.slice Aa1 na1 ca1)).setCell ⟨w4.heap.size, 1, none⟩ (.int .i64 rm1)).setCell ⟨w4.heap.size, 2, none⟩ (.int .i64 fz1)).setCell ⟨w4.heap.size, 3, none⟩ (.bool dn1)) := ⟨_, rfl⟩
      rw [← hwb]
      have HB_wb1 : Hid (Below W0.heap.size W0 wb1) := Lib.hid (by rw [hwb]; exact below_set4 HB_wa1.out h15 _ _ _ _)
      have E15_wb1 : Hid (wb1.heap[w4.heap.size]? = some (.cells #[.slice Aa1 na1 ca1, .int .i64 rm1, .int .i64 fz1, .bool dn1] 24 (0, 0))) := Lib.hid (by rw [hwb]; exact heap_set4_self _ _ _ _ E15_wa1.out)
      have HFb : Hid (FilesIn wb1 (Off [w4.heap.size] wb1) Aa1 F1) := Lib.hid (by rw [hwb]; exact HFa.out.set4 (by simp) _ _ _ _)
      clear hwb HFa s0 t0 s1 t1 s2 t2 s3 t3 z0 z1 z2 z3 zl
      refine Calls.mono ((by have hh := disk.rappend A n c room fuse down a1 p3 n3 c3 x3 fs (Off [w4.heap.size] wb1) wb1 Off.lt (HFo.out wb1 [w4.heap.size] (HWW.out wb1 HB_wb1.out) how1) HN.out HN6.out HNC.out HCM.out HRI.out HFU.out hm1 (HK3.out wb1 [w4.heap.size] (HWW.out wb1 HB_wb1.out) how1) HKN3.out (by omega) HUS.out HDL.out; rw [HV1.out] at hh; exact hh)) ?_
      rintro ec w7 ⟨Ac1, nc1, cc1, rfl, hrc, hlc, hmc, hcc, hgc⟩
      have HB_w7 : Hid (Below W0.heap.size W0 w7) := Lib.hid (HB_wb1.out.trans (hgc.mono HB_wb1.out.size))
      have E15_w7 : Hid (w7.heap[w4.heap.size]? = some (.cells #[.slice Aa1 na1 ca1, .int .i64 rm1, .int .i64 fz1, .bool dn1] 24 (0, 0))) := Lib.hid ((hgc.block _ (cells4 E15_wb1.out).2.2.2.2).trans E15_wb1.out)
      have HFac : Hid (FilesIn w7 (Off [w4.heap.size] w7) Aa1 F1) := Lib.hid (HFb.out.grow hgc)
      have HFc : Hid (FilesIn w7 (Off [w4.heap.size] w7) Ac1 F1) := Lib.hid (hrc.ret (by intro g hg; simp at hg; subst hg; exact (cells4 E15_wb1.out).2.2.2.2) hgc.size)
      obtain rfl : na1 = nc1 := by rw [← HLa.out.1, hlc.out]
      have HLc : Hid (na1 ≤ cc1 ∧ cc1 ≤ maxLen) := Lib.hid ⟨hmc, hcc⟩
      clear hrc hlc hmc hcc hgc HFb
      obtain ⟨x0_, x1_, x2_, x3_, xl_⟩ := cells4 E15_w7.out
      have h1715 : w7.heap.size ≠ w4.heap.size := Nat.ne_of_gt xl_
      have h1517 : w4.heap.size ≠ w7.heap.size := Nat.ne_of_lt xl_
      have h17 : W0.heap.size ≤ w7.heap.size := HB_w7.out.size
      go_wp2_with fail
      obtain ⟨wd1, hwd⟩ : ∃ x, x = w7.alloc (.cells #[.slice Ac1 na1 cc1, .int .i64 rm1, .int .i64 fz1, .bool dn1] 24) := ⟨_, rfl⟩
      rw [← hwd]
      have HB_wd1 : Hid (Below W0.heap.size W0 wd1) := Lib.hid (by rw [hwd]; exact HB_w7.out.alloc h17 _)
      have E15_wd1 : Hid (wd1.heap[w4.heap.size]? = some (.cells #[.slice Aa1 na1 ca1, .int .i64 rm1, .int .i64 fz1, .bool dn1] 24 (0, 0))) := Lib.hid (by rw [hwd]; exact (Below.heap_alloc _ _ _ xl_).trans E15_w7.out)
      have E17_wd1 : Hid (wd1.heap[w7.heap.size]? = some (.cells #[.slice Ac1 na1 cc1, .int .i64 rm1, .int .i64 fz1, .bool dn1] 24 (0, 0))) := Lib.hid (by rw [hwd]; exact heap_alloc_new w7 _)
      have HFad : Hid (FilesIn wd1 (Off [w7.heap.size, w4.heap.size] wd1) Aa1 F1) := Lib.hid (by rw [hwd]; exact HFac.out.mine _)
      have HFcd : Hid (FilesIn wd1 (Off [w7.heap.size, w4.heap.size] wd1) Ac1 F1) := Lib.hid (by rw [hwd]; exact HFc.out.mine _)
      clear hwd HFac HFc x0_ x1_ x2_ x3_ xl_
      refine Calls.mono (same_is Aa1 Ac1 na1 ca1 cc1 rm1 fz1 dn1 F1 x1 wd1 HFad.out HFcd.out HLa.out.1 (Nat.le_trans HLa.out.2.1 HLa.out.2.2)) ?_
      rintro ee we1 ⟨rfl, hbe⟩
      have HB_we1 : Hid (Below W0.heap.size W0 we1) := Lib.hid (HB_wd1.out.trans (hbe.mono HB_wd1.out.size))
      have E15_we1 : Hid (we1.heap[w4.heap.size]? = some (.cells #[.slice Aa1 na1 ca1, .int .i64 rm1, .int .i64 fz1, .bool dn1] 24 (0, 0))) := Lib.hid ((hbe.block _ (cells4 E15_wd1.out).2.2.2.2).trans E15_wd1.out)
      have E17_we1 : Hid (we1.heap[w7.heap.size]? = some (.cells #[.slice Ac1 na1 cc1, .int .i64 rm1, .int .i64 fz1, .bool dn1] 24 (0, 0))) := Lib.hid ((hbe.block _ (cells4 E17_wd1.out).2.2.2.2).trans E17_wd1.out)
      clear hbe HFad HFcd HLa HLc
      have how2 : ∀ g ∈ [w7.heap.size, w4.heap.size], w.heap.size ≤ g := by intro g hg; simp at hg; rcases hg with rfl | rfl <;> omega
      obtain ⟨z0, z1, z2, z3, zl⟩ := cells4 (HBX.out we1 HB_we1.out)
      go_wp2_with fail
      refine Calls.mono (disk.dsync A n c room fuse down a1 fs _ (Off [w7.heap.size, w4.heap.size] we1) we1 Off.lt (HFo.out we1 [w7.heap.size, w4.heap.size] (HWW.out we1 HB_we1.out) how2) HN.out HNC.out HCM.out HRI.out HFU.out HSH.out hs1 HV2.out) ?_
      rintro ea wa2 ⟨Aa2, na2, ca2, rfl, hra, hla, hma, hca, hga⟩
      have HB_wa2 : Hid (Below W0.heap.size W0 wa2) := Lib.hid (HB_we1.out.trans (hga.mono HB_we1.out.size))
      have E15_wa2 : Hid (wa2.heap[w4.heap.size]? = some (.cells #[.slice Aa1 na1 ca1, .int .i64 rm1, .int .i64 fz1, .bool dn1] 24 (0, 0))) := Lib.hid ((hga.block _ (cells4 E15_we1.out).2.2.2.2).trans E15_we1.out)
      have E17_wa2 : Hid (wa2.heap[w7.heap.size]? = some (.cells #[.slice Ac1 na1 cc1, .int .i64 rm1, .int .i64 fz1, .bool dn1] 24 (0, 0))) := Lib.hid ((hga.block _ (cells4 E17_we1.out).2.2.2.2).trans E17_we1.out)
      have HFa : Hid (FilesIn wa2 (Off [w7.heap.size, w4.heap.size] wa2) Aa2 F2) := Lib.hid (hra.ret (by intro g hg; simp at hg; rcases hg with rfl | rfl; exact (cells4 E17_we1.out).2.2.2.2; exact (cells4 E15_we1.out).2.2.2.2) hga.size)
      have HLa : Hid (F2.length = na2 ∧ na2 ≤ ca2 ∧ ca2 ≤ maxLen) := Lib.hid ⟨hla.out, hma, hca⟩
      clear hra hla hma hca hga z0 z1 z2 z3 zl
      obtain ⟨z0, z1, z2, z3, zl⟩ := cells4 (HBX.out wa2 HB_wa2.out)
      obtain ⟨s0, t0⟩ := block_cell E15_wa2.out 0 _ rfl
      obtain ⟨s1, t1⟩ := block_cell E15_wa2.out 1 _ rfl
      obtain ⟨s2, t2⟩ := block_cell E15_wa2.out 2 _ rfl
      obtain ⟨s3, t3⟩ := block_cell E15_wa2.out 3 _ rfl
      go_wp2_with fail
      obtain ⟨wb2, hwb⟩ : ∃ x, x = ((((wa2.setCell ⟨w4.heap.size, 0, none⟩ (.slice Aa2 na2 ca2)).setCell ⟨w4.heap.size, 1, none⟩ (.int .i64 rm2)).setCell ⟨w4.heap.size, 2, none⟩ (.int .i64 fz2)).setCell ⟨w4.heap.size, 3, none⟩ (.bool dn2)) := ⟨_, rfl⟩
      rw [← hwb]
      have HB_wb2 : Hid (Below W0.heap.size W0 wb2) := Lib.hid (by rw [hwb]; exact below_set4 HB_wa2.out h15 _ _ _ _)
      have E15_wb2 : Hid (wb2.heap[w4.heap.size]? = some (.cells #[.slice Aa2 na2 ca2, .int .i64 rm2, .int .i64 fz2, .bool dn2] 24 (0, 0))) := Lib.hid (by rw [hwb]; exact heap_set4_self _ _ _ _ E15_wa2.out)
      have E17_wb2 : Hid (wb2.heap[w7.heap.size]? = some (.cells #[.slice Ac1 na1 cc1, .int .i64 rm1, .int .i64 fz1, .bool dn1] 24 (0, 0))) := Lib.hid (by rw [hwb]; exact (heap_set4 _ _ _ _ h1715).trans E17_wa2.out)
      have HFb : Hid (FilesIn wb2 (Off [w7.heap.size, w4.heap.size] wb2) Aa2 F2) := Lib.hid (by rw [hwb]; exact HFa.out.set4 (by simp) _ _ _ _)
      clear hwb HFa s0 t0 s1 t1 s2 t2 s3 t3 z0 z1 z2 z3 zl
      refine Calls.mono ((by have hh := disk.rsync A n c room fuse down a1 fs (Off [w7.heap.size, w4.heap.size] wb2) wb2 Off.lt (HFo.out wb2 [w7.heap.size, w4.heap.size] (HWW.out wb2 HB_wb2.out) how2) HN.out HN6.out HNC.out HCM.out HRI.out HFU.out hm1; rw [HV2.out] at hh; exact hh)) ?_
      rintro ec wr2 ⟨Ac2, nc2, cc2, rfl, hrc, hlc, hmc, hcc, hgc⟩
      have HB_wr2 : Hid (Below W0.heap.size W0 wr2) := Lib.hid (HB_wb2.out.trans (hgc.mono HB_wb2.out.size))
      have E15_wr2 : Hid (wr2.heap[w4.heap.size]? = some (.cells #[.slice Aa2 na2 ca2, .int .i64 rm2, .int .i64 fz2, .bool dn2] 24 (0, 0))) := Lib.hid ((hgc.block _ (cells4 E15_wb2.out).2.2.2.2).trans E15_wb2.out)
      have E17_wr2 : Hid (wr2.heap[w7.heap.size]? = some (.cells #[.slice Ac1 na1 cc1, .int .i64 rm1, .int .i64 fz1, .bool dn1] 24 (0, 0))) := Lib.hid ((hgc.block _ (cells4 E17_wb2.out).2.2.2.2).trans E17_wb2.out)
      have HFac : Hid (FilesIn wr2 (Off [w7.heap.size, w4.heap.size] wr2) Aa2 F2) := Lib.hid (HFb.out.grow hgc)
      have HFc : Hid (FilesIn wr2 (Off [w7.heap.size, w4.heap.size] wr2) Ac2 F2) := Lib.hid (hrc.ret (by intro g hg; simp at hg; rcases hg with rfl | rfl; exact (cells4 E17_wb2.out).2.2.2.2; exact (cells4 E15_wb2.out).2.2.2.2) hgc.size)
      obtain rfl : na2 = nc2 := by rw [← HLa.out.1, hlc.out]
      have HLc : Hid (na2 ≤ cc2 ∧ cc2 ≤ maxLen) := Lib.hid ⟨hmc, hcc⟩
      clear hrc hlc hmc hcc hgc HFb
      obtain ⟨x0_, x1_, x2_, x3_, xl_⟩ := cells4 E15_wr2.out
      obtain ⟨s0, t0⟩ := block_cell E17_wr2.out 0 _ rfl
      obtain ⟨s1, t1⟩ := block_cell E17_wr2.out 1 _ rfl
      obtain ⟨s2, t2⟩ := block_cell E17_wr2.out 2 _ rfl
      obtain ⟨s3, t3⟩ := block_cell E17_wr2.out 3 _ rfl
      go_wp2_with fail
      obtain ⟨wd2, hwd⟩ : ∃ x, x = ((((wr2.setCell ⟨w7.heap.size, 0, none⟩ (.slice Ac2 na2 cc2)).setCell ⟨w7.heap.size, 1, none⟩ (.int .i64 rm2)).setCell ⟨w7.heap.size, 2, none⟩ (.int .i64 fz2)).setCell ⟨w7.heap.size, 3, none⟩ (.bool dn2)) := ⟨_, rfl⟩
      rw [← hwd]
      have HB_wd2 : Hid (Below W0.heap.size W0 wd2) := Lib.hid (by rw [hwd]; exact below_set4 HB_wr2.out h17 _ _ _ _)
      have E15_wd2 : Hid (wd2.heap[w4.heap.size]? = some (.cells #[.slice Aa2 na2 ca2, .int .i64 rm2, .int .i64 fz2, .bool dn2] 24 (0, 0))) := Lib.hid (by rw [hwd]; exact (heap_set4 _ _ _ _ h1517).trans E15_wr2.out)
      have E17_wd2 : Hid (wd2.heap[w7.heap.size]? = some (.cells #[.slice Ac2 na2 cc2, .int .i64 rm2, .int .i64 fz2, .bool dn2] 24 (0, 0))) := Lib.hid (by rw [hwd]; exact heap_set4_self _ _ _ _ E17_wr2.out)
      have HFad : Hid (FilesIn wd2 (Off [w7.heap.size, w4.heap.size] wd2) Aa2 F2) := Lib.hid (by rw [hwd]; exact HFac.out.set4 (by simp) _ _ _ _)
      have HFcd : Hid (FilesIn wd2 (Off [w7.heap.size, w4.heap.size] wd2) Ac2 F2) := Lib.hid (by rw [hwd]; exact HFc.out.set4 (by simp) _ _ _ _)
      clear hwd HFac HFc x0_ x1_ x2_ x3_ xl_ s0 t0 s1 t1 s2 t2 s3 t3
      refine Calls.mono (same_is Aa2 Ac2 na2 ca2 cc2 rm2 fz2 dn2 F2 x2 wd2 HFad.out HFcd.out HLa.out.1 (Nat.le_trans HLa.out.2.1 HLa.out.2.2)) ?_
      rintro ee we2 ⟨rfl, hbe⟩
      have HB_we2 : Hid (Below W0.heap.size W0 we2) := Lib.hid (HB_wd2.out.trans (hbe.mono HB_wd2.out.size))
      have E15_we2 : Hid (we2.heap[w4.heap.size]? = some (.cells #[.slice Aa2 na2 ca2, .int .i64 rm2, .int .i64 fz2, .bool dn2] 24 (0, 0))) := Lib.hid ((hbe.block _ (cells4 E15_wd2.out).2.2.2.2).trans E15_wd2.out)
      have E17_we2 : Hid (we2.heap[w7.heap.size]? = some (.cells #[.slice Ac2 na2 cc2, .int .i64 rm2, .int .i64 fz2, .bool dn2] 24 (0, 0))) := Lib.hid ((hbe.block _ (cells4 E17_wd2.out).2.2.2.2).trans E17_wd2.out)
      clear hbe HFad HFcd HLa HLc
      obtain ⟨z0, z1, z2, z3, zl⟩ := cells4 (HBX.out we2 HB_we2.out)
      go_wp2_with fail
      refine Calls.mono (disk.drename A n c room fuse down a1 a2 fs _ (Off [w7.heap.size, w4.heap.size] we2) we2 Off.lt (HFo.out we2 [w7.heap.size, w4.heap.size] (HWW.out we2 HB_we2.out) how2) HN.out HNC.out HCM.out HRI.out HFU.out HSH.out hs1 hs2 HV3.out) ?_
      rintro ea wa3 ⟨Aa3, na3, ca3, rfl, hra, hla, hma, hca, hga⟩
      have HB_wa3 : Hid (Below W0.heap.size W0 wa3) := Lib.hid (HB_we2.out.trans (hga.mono HB_we2.out.size))
      have E15_wa3 : Hid (wa3.heap[w4.heap.size]? = some (.cells #[.slice Aa2 na2 ca2, .int .i64 rm2, .int .i64 fz2, .bool dn2] 24 (0, 0))) := Lib.hid ((hga.block _ (cells4 E15_we2.out).2.2.2.2).trans E15_we2.out)
      have E17_wa3 : Hid (wa3.heap[w7.heap.size]? = some (.cells #[.slice Ac2 na2 cc2, .int .i64 rm2, .int .i64 fz2, .bool dn2] 24 (0, 0))) := Lib.hid ((hga.block _ (cells4 E17_we2.out).2.2.2.2).trans E17_we2.out)
      have HFa : Hid (FilesIn wa3 (Off [w7.heap.size, w4.heap.size] wa3) Aa3 F3) := Lib.hid (hra.ret (by intro g hg; simp at hg; rcases hg with rfl | rfl; exact (cells4 E17_we2.out).2.2.2.2; exact (cells4 E15_we2.out).2.2.2.2) hga.size)
      have HLa : Hid (F3.length = na3 ∧ na3 ≤ ca3 ∧ ca3 ≤ maxLen) := Lib.hid ⟨hla.out, hma, hca⟩
      clear hra hla hma hca hga z0 z1 z2 z3 zl
      obtain ⟨z0, z1, z2, z3, zl⟩ := cells4 (HBX.out wa3 HB_wa3.out)
      obtain ⟨s0, t0⟩ := block_cell E15_wa3.out 0 _ rfl
      obtain ⟨s1, t1⟩ := block_cell E15_wa3.out 1 _ rfl
      obtain ⟨s2, t2⟩ := block_cell E15_wa3.out 2 _ rfl
      obtain ⟨s3, t3⟩ := block_cell E15_wa3.out 3 _ rfl
      go_wp2_with fail
      obtain ⟨wb3, hwb⟩ : ∃ x, x = ((((wa3.setCell ⟨w4.heap.size, 0, none⟩ (.slice Aa3 na3 ca3)).setCell ⟨w4.heap.size, 1, none⟩ (.int .i64 rm3)).setCell ⟨w4.heap.size, 2, none⟩ (.int .i64 fz3)).setCell ⟨w4.heap.size, 3, none⟩ (.bool dn3)) := ⟨_, rfl⟩
      rw [← hwb]
      have HB_wb3 : Hid (Below W0.heap.size W0 wb3) := Lib.hid (by rw [hwb]; exact below_set4 HB_wa3.out h15 _ _ _ _)
      have E15_wb3 : Hid (wb3.heap[w4.heap.size]? = some (.cells #[.slice Aa3 na3 ca3, .int .i64 rm3, .int .i64 fz3, .bool dn3] 24 (0, 0))) := Lib.hid (by rw [hwb]; exact heap_set4_self _ _ _ _ E15_wa3.out)
      have E17_wb3 : Hid (wb3.heap[w7.heap.size]? = some (.cells #[.slice Ac2 na2 cc2, .int .i64 rm2, .int .i64 fz2, .bool dn2] 24 (0, 0))) := Lib.hid (by rw [hwb]; exact (heap_set4 _ _ _ _ h1715).trans E17_wa3.out)
      have HFb : Hid (FilesIn wb3 (Off [w7.heap.size, w4.heap.size] wb3) Aa3 F3) := Lib.hid (by rw [hwb]; exact HFa.out.set4 (by simp) _ _ _ _)
      clear hwb HFa s0 t0 s1 t1 s2 t2 s3 t3 z0 z1 z2 z3 zl
      refine Calls.mono ((by have hh := disk.rrename A n c room fuse down a1 a2 fs (Off [w7.heap.size, w4.heap.size] wb3) wb3 Off.lt (HFo.out wb3 [w7.heap.size, w4.heap.size] (HWW.out wb3 HB_wb3.out) how2) HN.out HN6.out HNC.out HCM.out HRI.out HFU.out hm1 hm2; rw [HV3.out] at hh; exact hh)) ?_
      rintro ec wr3 ⟨Ac3, nc3, cc3, rfl, hrc, hlc, hmc, hcc, hgc⟩
      have HB_wr3 : Hid (Below W0.heap.size W0 wr3) := Lib.hid (HB_wb3.out.trans (hgc.mono HB_wb3.out.size))
      have E15_wr3 : Hid (wr3.heap[w4.heap.size]? = some (.cells #[.slice Aa3 na3 ca3, .int .i64 rm3, .int .i64 fz3, .bool dn3] 24 (0, 0))) := Lib.hid ((hgc.block _ (cells4 E15_wb3.out).2.2.2.2).trans E15_wb3.out)
      have E17_wr3 : Hid (wr3.heap[w7.heap.size]? = some (.cells #[.slice Ac2 na2 cc2, .int .i64 rm2, .int .i64 fz2, .bool dn2] 24 (0, 0))) := Lib.hid ((hgc.block _ (cells4 E17_wb3.out).2.2.2.2).trans E17_wb3.out)
      have HFac : Hid (FilesIn wr3 (Off [w7.heap.size, w4.heap.size] wr3) Aa3 F3) := Lib.hid (HFb.out.grow hgc)
      have HFc : Hid (FilesIn wr3 (Off [w7.heap.size, w4.heap.size] wr3) Ac3 F3) := Lib.hid (hrc.ret (by intro g hg; simp at hg; rcases hg with rfl | rfl; exact (cells4 E17_wb3.out).2.2.2.2; exact (cells4 E15_wb3.out).2.2.2.2) hgc.size)
      obtain rfl : na3 = nc3 := by rw [← HLa.out.1, hlc.out]
      have HLc : Hid (na3 ≤ cc3 ∧ cc3 ≤ maxLen) := Lib.hid ⟨hmc, hcc⟩
      clear hrc hlc hmc hcc hgc HFb
      obtain ⟨x0_, x1_, x2_, x3_, xl_⟩ := cells4 E15_wr3.out
      obtain ⟨s0, t0⟩ := block_cell E17_wr3.out 0 _ rfl
      obtain ⟨s1, t1⟩ := block_cell E17_wr3.out 1 _ rfl
      obtain ⟨s2, t2⟩ := block_cell E17_wr3.out 2 _ rfl
      obtain ⟨s3, t3⟩ := block_cell E17_wr3.out 3 _ rfl
      go_wp2_with fail
      obtain ⟨wd3, hwd⟩ : ∃ x, x = ((((wr3.setCell ⟨w7.heap.size, 0, none⟩ (.slice Ac3 na3 cc3)).setCell ⟨w7.heap.size, 1, none⟩ (.int .i64 rm3)).setCell ⟨w7.heap.size, 2, none⟩ (.int .i64 fz3)).setCell ⟨w7.heap.size, 3, none⟩ (.bool dn3)) := ⟨_, rfl⟩
      rw [← hwd]
      have HB_wd3 : Hid (Below W0.heap.size W0 wd3) := Lib.hid (by rw [hwd]; exact below_set4 HB_wr3.out h17 _ _ _ _)
      have E15_wd3 : Hid (wd3.heap[w4.heap.size]? = some (.cells #[.slice Aa3 na3 ca3, .int .i64 rm3, .int .i64 fz3, .bool dn3] 24 (0, 0))) := Lib.hid (by rw [hwd]; exact (heap_set4 _ _ _ _ h1517).trans E15_wr3.out)
      have E17_wd3 : Hid (wd3.heap[w7.heap.size]? = some (.cells #[.slice Ac3 na3 cc3, .int .i64 rm3, .int .i64 fz3, .bool dn3] 24 (0, 0))) := Lib.hid (by rw [hwd]; exact heap_set4_self _ _ _ _ E17_wr3.out)
      have HFad : Hid (FilesIn wd3 (Off [w7.heap.size, w4.heap.size] wd3) Aa3 F3) := Lib.hid (by rw [hwd]; exact HFac.out.set4 (by simp) _ _ _ _)
      have HFcd : Hid (FilesIn wd3 (Off [w7.heap.size, w4.heap.size] wd3) Ac3 F3) := Lib.hid (by rw [hwd]; exact HFc.out.set4 (by simp) _ _ _ _)
      clear hwd HFac HFc x0_ x1_ x2_ x3_ xl_ s0 t0 s1 t1 s2 t2 s3 t3
      refine Calls.mono (same_is Aa3 Ac3 na3 ca3 cc3 rm3 fz3 dn3 F3 x3_ wd3 HFad.out HFcd.out HLa.out.1 (Nat.le_trans HLa.out.2.1 HLa.out.2.2)) ?_
      rintro ee we3 ⟨rfl, hbe⟩
      have HB_we3 : Hid (Below W0.heap.size W0 we3) := Lib.hid (HB_wd3.out.trans (hbe.mono HB_wd3.out.size))
      have E15_we3 : Hid (we3.heap[w4.heap.size]? = some (.cells #[.slice Aa3 na3 ca3, .int .i64 rm3, .int .i64 fz3, .bool dn3] 24 (0, 0))) := Lib.hid ((hbe.block _ (cells4 E15_wd3.out).2.2.2.2).trans E15_wd3.out)
      have E17_we3 : Hid (we3.heap[w7.heap.size]? = some (.cells #[.slice Ac3 na3 cc3, .int .i64 rm3, .int .i64 fz3, .bool dn3] 24 (0, 0))) := Lib.hid ((hbe.block _ (cells4 E17_wd3.out).2.2.2.2).trans E17_wd3.out)
      clear hbe HFad HFcd HLa HLc
      obtain ⟨z0, z1, z2, z3, zl⟩ := cells4 (HBX.out we3 HB_we3.out)
      go_wp2_with fail
      refine Calls.mono (disk.dremove A n c room fuse down a1 fs _ (Off [w7.heap.size, w4.heap.size] we3) we3 Off.lt (HFo.out we3 [w7.heap.size, w4.heap.size] (HWW.out we3 HB_we3.out) how2) HN.out HNC.out HCM.out HRI.out HFU.out HSH.out hs1 HV4.out) ?_
      rintro ea wa4 ⟨Aa4, na4, ca4, rfl, hra, hla, hma, hca, hga⟩
      have HB_wa4 : Hid (Below W0.heap.size W0 wa4) := Lib.hid (HB_we3.out.trans (hga.mono HB_we3.out.size))
      have E15_wa4 : Hid (wa4.heap[w4.heap.size]? = some (.cells #[.slice Aa3 na3 ca3, .int .i64 rm3, .int .i64 fz3, .bool dn3] 24 (0, 0))) := Lib.hid ((hga.block _ (cells4 E15_we3.out).2.2.2.2).trans E15_we3.out)
      have E17_wa4 : Hid (wa4.heap[w7.heap.size]? = some (.cells #[.slice Ac3 na3 cc3, .int .i64 rm3, .int .i64 fz3, .bool dn3] 24 (0, 0))) := Lib.hid ((hga.block _ (cells4 E17_we3.out).2.2.2.2).trans E17_we3.out)
      have HFa : Hid (FilesIn wa4 (Off [w7.heap.size, w4.heap.size] wa4) Aa4 F4) := Lib.hid (hra.ret (by intro g hg; simp at hg; rcases hg with rfl | rfl; exact (cells4 E17_we3.out).2.2.2.2; exact (cells4 E15_we3.out).2.2.2.2) hga.size)
      have HLa : Hid (F4.length = na4 ∧ na4 ≤ ca4 ∧ ca4 ≤ maxLen) := Lib.hid ⟨hla.out, hma, hca⟩
      clear hra hla hma hca hga z0 z1 z2 z3 zl
      obtain ⟨z0, z1, z2, z3, zl⟩ := cells4 (HBX.out wa4 HB_wa4.out)
      obtain ⟨s0, t0⟩ := block_cell E15_wa4.out 0 _ rfl
      obtain ⟨s1, t1⟩ := block_cell E15_wa4.out 1 _ rfl
      obtain ⟨s2, t2⟩ := block_cell E15_wa4.out 2 _ rfl
      obtain ⟨s3, t3⟩ := block_cell E15_wa4.out 3 _ rfl
      go_wp2_with fail
      obtain ⟨wb4, hwb⟩ : ∃ x, x = ((((wa4.setCell ⟨w4.heap.size, 0, none⟩ (.slice Aa4 na4 ca4)).setCell ⟨w4.heap.size, 1, none⟩ (.int .i64 rm4)).setCell ⟨w4.heap.size, 2, none⟩ (.int .i64 fz4)).setCell ⟨w4.heap.size, 3, none⟩ (.bool dn4)) := ⟨_, rfl⟩
      rw [← hwb]
      have HB_wb4 : Hid (Below W0.heap.size W0 wb4) := Lib.hid (by rw [hwb]; exact below_set4 HB_wa4.out h15 _ _ _ _)
      have E15_wb4 : Hid (wb4.heap[w4.heap.size]? = some (.cells #[.slice Aa4 na4 ca4, .int .i64 rm4, .int .i64 fz4, .bool dn4] 24 (0, 0))) := Lib.hid (by rw [hwb]; exact heap_set4_self _ _ _ _ E15_wa4.out)
      have E17_wb4 : Hid (wb4.heap[w7.heap.size]? = some (.cells #[.slice Ac3 na3 cc3, .int .i64 rm3, .int .i64 fz3, .bool dn3] 24 (0, 0))) := Lib.hid (by rw [hwb]; exact (heap_set4 _ _ _ _ h1715).trans E17_wa4.out)
      have HFb : Hid (FilesIn wb4 (Off [w7.heap.size, w4.heap.size] wb4) Aa4 F4) := Lib.hid (by rw [hwb]; exact HFa.out.set4 (by simp) _ _ _ _)
      clear hwb HFa s0 t0 s1 t1 s2 t2 s3 t3 z0 z1 z2 z3 zl
      refine Calls.mono ((by have hh := disk.rremove A n c room fuse down a1 fs (Off [w7.heap.size, w4.heap.size] wb4) wb4 Off.lt (HFo.out wb4 [w7.heap.size, w4.heap.size] (HWW.out wb4 HB_wb4.out) how2) HN.out HN6.out HNC.out HCM.out HRI.out HFU.out hm1; rw [HV4.out] at hh; exact hh)) ?_
      rintro ec wr4 ⟨Ac4, nc4, cc4, rfl, hrc, hlc, hmc, hcc, hgc⟩
      have HB_wr4 : Hid (Below W0.heap.size W0 wr4) := Lib.hid (HB_wb4.out.trans (hgc.mono HB_wb4.out.size))
      have E15_wr4 : Hid (wr4.heap[w4.heap.size]? = some (.cells #[.slice Aa4 na4 ca4, .int .i64 rm4, .int .i64 fz4, .bool dn4] 24 (0, 0))) := Lib.hid ((hgc.block _ (cells4 E15_wb4.out).2.2.2.2).trans E15_wb4.out)
      have E17_wr4 : Hid (wr4.heap[w7.heap.size]? = some (.cells #[.slice Ac3 na3 cc3, .int .i64 rm3, .int .i64 fz3, .bool dn3] 24 (0, 0))) := Lib.hid ((hgc.block _ (cells4 E17_wb4.out).2.2.2.2).trans E17_wb4.out)
      have HFac : Hid (FilesIn wr4 (Off [w7.heap.size, w4.heap.size] wr4) Aa4 F4) := Lib.hid (HFb.out.grow hgc)
      have HFc : Hid (FilesIn wr4 (Off [w7.heap.size, w4.heap.size] wr4) Ac4 F4) := Lib.hid (hrc.ret (by intro g hg; simp at hg; rcases hg with rfl | rfl; exact (cells4 E17_wb4.out).2.2.2.2; exact (cells4 E15_wb4.out).2.2.2.2) hgc.size)
      obtain rfl : na4 = nc4 := by rw [← HLa.out.1, hlc.out]
      have HLc : Hid (na4 ≤ cc4 ∧ cc4 ≤ maxLen) := Lib.hid ⟨hmc, hcc⟩
      clear hrc hlc hmc hcc hgc HFb
      obtain ⟨x0_, x1_, x2_, x3_, xl_⟩ := cells4 E15_wr4.out
      obtain ⟨s0, t0⟩ := block_cell E17_wr4.out 0 _ rfl
      obtain ⟨s1, t1⟩ := block_cell E17_wr4.out 1 _ rfl
      obtain ⟨s2, t2⟩ := block_cell E17_wr4.out 2 _ rfl
      obtain ⟨s3, t3⟩ := block_cell E17_wr4.out 3 _ rfl
      go_wp2_with fail
      obtain ⟨wd4, hwd⟩ : ∃ x, x = ((((wr4.setCell ⟨w7.heap.size, 0, none⟩ (.slice Ac4 na4 cc4)).setCell ⟨w7.heap.size, 1, none⟩ (.int .i64 rm4)).setCell ⟨w7.heap.size, 2, none⟩ (.int .i64 fz4)).setCell ⟨w7.heap.size, 3, none⟩ (.bool dn4)) := ⟨_, rfl⟩
      rw [← hwd]
      have HB_wd4 : Hid (Below W0.heap.size W0 wd4) := Lib.hid (by rw [hwd]; exact below_set4 HB_wr4.out h17 _ _ _ _)
      have E15_wd4 : Hid (wd4.heap[w4.heap.size]? = some (.cells #[.slice Aa4 na4 ca4, .int .i64 rm4, .int .i64 fz4, .bool dn4] 24 (0, 0))) := Lib.hid (by rw [hwd]; exact (heap_set4 _ _ _ _ h1517).trans E15_wr4.out)
      have E17_wd4 : Hid (wd4.heap[w7.heap.size]? = some (.cells #[.slice Ac4 na4 cc4, .int .i64 rm4, .int .i64 fz4, .bool dn4] 24 (0, 0))) := Lib.hid (by rw [hwd]; exact heap_set4_self _ _ _ _ E17_wr4.out)
      have HFad : Hid (FilesIn wd4 (Off [w7.heap.size, w4.heap.size] wd4) Aa4 F4) := Lib.hid (by rw [hwd]; exact HFac.out.set4 (by simp) _ _ _ _)
      have HFcd : Hid (FilesIn wd4 (Off [w7.heap.size, w4.heap.size] wd4) Ac4 F4) := Lib.hid (by rw [hwd]; exact HFc.out.set4 (by simp) _ _ _ _)
      clear hwd HFac HFc x0_ x1_ x2_ x3_ xl_ s0 t0 s1 t1 s2 t2 s3 t3
      refine Calls.mono (same_is Aa4 Ac4 na4 ca4 cc4 rm4 fz4 dn4 F4 x4 wd4 HFad.out HFcd.out HLa.out.1 (Nat.le_trans HLa.out.2.1 HLa.out.2.2)) ?_
      rintro ee we4 ⟨rfl, hbe⟩
      have HB_we4 : Hid (Below W0.heap.size W0 we4) := Lib.hid (HB_wd4.out.trans (hbe.mono HB_wd4.out.size))
      have E15_we4 : Hid (we4.heap[w4.heap.size]? = some (.cells #[.slice Aa4 na4 ca4, .int .i64 rm4, .int .i64 fz4, .bool dn4] 24 (0, 0))) := Lib.hid ((hbe.block _ (cells4 E15_wd4.out).2.2.2.2).trans E15_wd4.out)
      have E17_we4 : Hid (we4.heap[w7.heap.size]? = some (.cells #[.slice Ac4 na4 cc4, .int .i64 rm4, .int .i64 fz4, .bool dn4] 24 (0, 0))) := Lib.hid ((hbe.block _ (cells4 E17_wd4.out).2.2.2.2).trans E17_wd4.out)
      clear hbe HFad HFcd HLa HLc
      obtain ⟨z0, z1, z2, z3, zl⟩ := cells4 (HBX.out we4 HB_we4.out)
      go_wp2_with fail
      refine Calls.mono (disk.dcut A n c room fuse down a1 a4 fs _ (Off [w7.heap.size, w4.heap.size] we4) we4 Off.lt (HFo.out we4 [w7.heap.size, w4.heap.size] (HWW.out we4 HB_we4.out) how2) HN.out HNC.out HCM.out HRI.out HFU.out HSH.out hs1 H4.out HV5.out) ?_
      rintro ea wa5 ⟨Aa5, na5, ca5, rfl, hra, hla, hma, hca, hga⟩
      have HB_wa5 : Hid (Below W0.heap.size W0 wa5) := Lib.hid (HB_we4.out.trans (hga.mono HB_we4.out.size))
      have E15_wa5 : Hid (wa5.heap[w4.heap.size]? = some (.cells #[.slice Aa4 na4 ca4, .int .i64 rm4, .int .i64 fz4, .bool dn4] 24 (0, 0))) := Lib.hid ((hga.block _ (cells4 E15_we4.out).2.2.2.2).trans E15_we4.out)
      have E17_wa5 : Hid (wa5.heap[w7.heap.size]? = some (.cells #[.slice Ac4 na4 cc4, .int .i64 rm4, .int .i64 fz4, .bool dn4] 24 (0, 0))) := Lib.hid ((hga.block _ (cells4 E17_we4.out).2.2.2.2).trans E17_we4.out)
      have HFa : Hid (FilesIn wa5 (Off [w7.heap.size, w4.heap.size] wa5) Aa5 F5) := Lib.hid (hra.ret (by intro g hg; simp at hg; rcases hg with rfl | rfl; exact (cells4 E17_we4.out).2.2.2.2; exact (cells4 E15_we4.out).2.2.2.2) hga.size)
      have HLa : Hid (F5.length = na5 ∧ na5 ≤ ca5 ∧ ca5 ≤ maxLen) := Lib.hid ⟨hla.out, hma, hca⟩
      clear hra hla hma hca hga z0 z1 z2 z3 zl
      obtain ⟨z0, z1, z2, z3, zl⟩ := cells4 (HBX.out wa5 HB_wa5.out)
      obtain ⟨s0, t0⟩ := block_cell E15_wa5.out 0 _ rfl
      obtain ⟨s1, t1⟩ := block_cell E15_wa5.out 1 _ rfl
      obtain ⟨s2, t2⟩ := block_cell E15_wa5.out 2 _ rfl
      obtain ⟨s3, t3⟩ := block_cell E15_wa5.out 3 _ rfl
      go_wp2_with fail
      obtain ⟨wb5, hwb⟩ : ∃ x, x = ((((wa5.setCell ⟨w4.heap.size, 0, none⟩ (.slice Aa5 na5 ca5)).setCell ⟨w4.heap.size, 1, none⟩ (.int .i64 rm5)).setCell ⟨w4.heap.size, 2, none⟩ (.int .i64 fz5)).setCell ⟨w4.heap.size, 3, none⟩ (.bool dn5)) := ⟨_, rfl⟩
      rw [← hwb]
      have HB_wb5 : Hid (Below W0.heap.size W0 wb5) := Lib.hid (by rw [hwb]; exact below_set4 HB_wa5.out h15 _ _ _ _)
      have E15_wb5 : Hid (wb5.heap[w4.heap.size]? = some (.cells #[.slice Aa5 na5 ca5, .int .i64 rm5, .int .i64 fz5, .bool dn5] 24 (0, 0))) := Lib.hid (by rw [hwb]; exact heap_set4_self _ _ _ _ E15_wa5.out)
      have E17_wb5 : Hid (wb5.heap[w7.heap.size]? = some (.cells #[.slice Ac4 na4 cc4, .int .i64 rm4, .int .i64 fz4, .bool dn4] 24 (0, 0))) := Lib.hid (by rw [hwb]; exact (heap_set4 _ _ _ _ h1715).trans E17_wa5.out)
      have HFb : Hid (FilesIn wb5 (Off [w7.heap.size, w4.heap.size] wb5) Aa5 F5) := Lib.hid (by rw [hwb]; exact HFa.out.set4 (by simp) _ _ _ _)
      clear hwb HFa s0 t0 s1 t1 s2 t2 s3 t3 z0 z1 z2 z3 zl
      refine Calls.mono ((by have hh := disk.rcut A n c room fuse down a1 a4 fs (Off [w7.heap.size, w4.heap.size] wb5) wb5 Off.lt (HFo.out wb5 [w7.heap.size, w4.heap.size] (HWW.out wb5 HB_wb5.out) how2) HN.out HN6.out HNC.out HCM.out HRI.out HFU.out hm1 H4.out; rw [HV5.out] at hh; exact hh)) ?_
      rintro ec wr5 ⟨Ac5, nc5, cc5, rfl, hrc, hlc, hmc, hcc, hgc⟩
      have HB_wr5 : Hid (Below W0.heap.size W0 wr5) := Lib.hid (HB_wb5.out.trans (hgc.mono HB_wb5.out.size))
      have E15_wr5 : Hid (wr5.heap[w4.heap.size]? = some (.cells #[.slice Aa5 na5 ca5, .int .i64 rm5, .int .i64 fz5, .bool dn5] 24 (0, 0))) := Lib.hid ((hgc.block _ (cells4 E15_wb5.out).2.2.2.2).trans E15_wb5.out)
      have E17_wr5 : Hid (wr5.heap[w7.heap.size]? = some (.cells #[.slice Ac4 na4 cc4, .int .i64 rm4, .int .i64 fz4, .bool dn4] 24 (0, 0))) := Lib.hid ((hgc.block _ (cells4 E17_wb5.out).2.2.2.2).trans E17_wb5.out)
      have HFac : Hid (FilesIn wr5 (Off [w7.heap.size, w4.heap.size] wr5) Aa5 F5) := Lib.hid (HFb.out.grow hgc)
      have HFc : Hid (FilesIn wr5 (Off [w7.heap.size, w4.heap.size] wr5) Ac5 F5) := Lib.hid (hrc.ret (by intro g hg; simp at hg; rcases hg with rfl | rfl; exact (cells4 E17_wb5.out).2.2.2.2; exact (cells4 E15_wb5.out).2.2.2.2) hgc.size)
      obtain rfl : na5 = nc5 := by rw [← HLa.out.1, hlc.out]
      have HLc : Hid (na5 ≤ cc5 ∧ cc5 ≤ maxLen) := Lib.hid ⟨hmc, hcc⟩
      clear hrc hlc hmc hcc hgc HFb
      obtain ⟨x0_, x1_, x2_, x3_, xl_⟩ := cells4 E15_wr5.out
      obtain ⟨s0, t0⟩ := block_cell E17_wr5.out 0 _ rfl
      obtain ⟨s1, t1⟩ := block_cell E17_wr5.out 1 _ rfl
      obtain ⟨s2, t2⟩ := block_cell E17_wr5.out 2 _ rfl
      obtain ⟨s3, t3⟩ := block_cell E17_wr5.out 3 _ rfl
      go_wp2_with fail
      obtain ⟨wd5, hwd⟩ : ∃ x, x = ((((wr5.setCell ⟨w7.heap.size, 0, none⟩ (.slice Ac5 na5 cc5)).setCell ⟨w7.heap.size, 1, none⟩ (.int .i64 rm5)).setCell ⟨w7.heap.size, 2, none⟩ (.int .i64 fz5)).setCell ⟨w7.heap.size, 3, none⟩ (.bool dn5)) := ⟨_, rfl⟩
      rw [← hwd]
      have HB_wd5 : Hid (Below W0.heap.size W0 wd5) := Lib.hid (by rw [hwd]; exact below_set4 HB_wr5.out h17 _ _ _ _)
      have E15_wd5 : Hid (wd5.heap[w4.heap.size]? = some (.cells #[.slice Aa5 na5 ca5, .int .i64 rm5, .int .i64 fz5, .bool dn5] 24 (0, 0))) := Lib.hid (by rw [hwd]; exact (heap_set4 _ _ _ _ h1517).trans E15_wr5.out)
      have E17_wd5 : Hid (wd5.heap[w7.heap.size]? = some (.cells #[.slice Ac5 na5 cc5, .int .i64 rm5, .int .i64 fz5, .bool dn5] 24 (0, 0))) := Lib.hid (by rw [hwd]; exact heap_set4_self _ _ _ _ E17_wr5.out)
      have HFad : Hid (FilesIn wd5 (Off [w7.heap.size, w4.heap.size] wd5) Aa5 F5) := Lib.hid (by rw [hwd]; exact HFac.out.set4 (by simp) _ _ _ _)
      have HFcd : Hid (FilesIn wd5 (Off [w7.heap.size, w4.heap.size] wd5) Ac5 F5) := Lib.hid (by rw [hwd]; exact HFc.out.set4 (by simp) _ _ _ _)
      clear hwd HFac HFc x0_ x1_ x2_ x3_ xl_ s0 t0 s1 t1 s2 t2 s3 t3
      refine Calls.mono (same_is Aa5 Ac5 na5 ca5 cc5 rm5 fz5 dn5 F5 x5_ wd5 HFad.out HFcd.out HLa.out.1 (Nat.le_trans HLa.out.2.1 HLa.out.2.2)) ?_
      rintro ee we5 ⟨rfl, hbe⟩
      have HB_we5 : Hid (Below W0.heap.size W0 we5) := Lib.hid (HB_wd5.out.trans (hbe.mono HB_wd5.out.size))
      have E15_we5 : Hid (we5.heap[w4.heap.size]? = some (.cells #[.slice Aa5 na5 ca5, .int .i64 rm5, .int .i64 fz5, .bool dn5] 24 (0, 0))) := Lib.hid ((hbe.block _ (cells4 E15_wd5.out).2.2.2.2).trans E15_wd5.out)
      have E17_we5 : Hid (we5.heap[w7.heap.size]? = some (.cells #[.slice Ac5 na5 cc5, .int .i64 rm5, .int .i64 fz5, .bool dn5] 24 (0, 0))) := Lib.hid ((hbe.block _ (cells4 E17_wd5.out).2.2.2.2).trans E17_wd5.out)
      clear hbe HFad HFcd HLa HLc
      obtain ⟨z0, z1, z2, z3, zl⟩ := cells4 (HBX.out we5 HB_we5.out)
      go_wp2_with fail
      refine Calls.mono (disk.dread A n c room fuse down a1 fs _ (Off [w7.heap.size, w4.heap.size] we5) we5 Off.lt (HFo.out we5 [w7.heap.size, w4.heap.size] (HWW.out we5 HB_we5.out) how2) HN.out HNC.out HCM.out HRI.out HFU.out HSH.out hs1 HVR.out) ?_
      rintro ea wra ⟨Ara, nra, cra, rfl, hra, hla, hma, hca, hga⟩
      have HB_wra : Hid (Below W0.heap.size W0 wra) := Lib.hid (HB_we5.out.trans (hga.mono HB_we5.out.size))
      have E15_wra : Hid (wra.heap[w4.heap.size]? = some (.cells #[.slice Aa5 na5 ca5, .int .i64 rm5, .int .i64 fz5, .bool dn5] 24 (0, 0))) := Lib.hid ((hga.block _ (cells4 E15_we5.out).2.2.2.2).trans E15_we5.out)
      have E17_wra : Hid (wra.heap[w7.heap.size]? = some (.cells #[.slice Ac5 na5 cc5, .int .i64 rm5, .int .i64 fz5, .bool dn5] 24 (0, 0))) := Lib.hid ((hga.block _ (cells4 E17_we5.out).2.2.2.2).trans E17_we5.out)
      have HYa : Hid (Bys wra wra.heap.size Ara L) := Lib.hid (BysIn.bys (hra.ret (by intro g hg; simp at hg; rcases hg with rfl | rfl; exact (cells4 E17_we5.out).2.2.2.2; exact (cells4 E15_we5.out).2.2.2.2) hga.size) (fun b h => h.1))
      have HLa := Lib.hid hla.out
      clear hra hla hma hca hga z0 z1 z2 z3 zl
      obtain ⟨z0, z1, z2, z3, zl⟩ := cells4 (HBX.out wra HB_wra.out)
      go_wp2_with fail
      refine Calls.mono (by have hh := disk.rread A n c room fuse down a1 fs (Off [w7.heap.size, w4.heap.size] wra) wra Off.lt (HFo.out wra [w7.heap.size, w4.heap.size] (HWW.out wra HB_wra.out) how2) HN.out (Nat.le_trans HNC.out HCM.out) HRI.out HFU.out hm1; rw [HVR.out] at hh; exact hh) ?_
      rintro ec wrr ⟨Arc, nrc, crc, rfl, hrc, hlc, hmc, hcc, hgc⟩
      have HB_wrr : Hid (Below W0.heap.size W0 wrr) := Lib.hid (HB_wra.out.trans (hgc.mono HB_wra.out.size))
      have E15_wrr : Hid (wrr.heap[w4.heap.size]? = some (.cells #[.slice Aa5 na5 ca5, .int .i64 rm5, .int .i64 fz5, .bool dn5] 24 (0, 0))) := Lib.hid ((hgc.block _ (cells4 E15_wra.out).2.2.2.2).trans E15_wra.out)
      have E17_wrr : Hid (wrr.heap[w7.heap.size]? = some (.cells #[.slice Ac5 na5 cc5, .int .i64 rm5, .int .i64 fz5, .bool dn5] 24 (0, 0))) := Lib.hid ((hgc.block _ (cells4 E17_wra.out).2.2.2.2).trans E17_wra.out)
      obtain ⟨sL, hsL⟩ : ∃ sL, strB L = sL := ⟨_, rfl⟩
      have hs_1 : (convert 25 9 (.slice Ara nra cra)).run Try.prog wrr = .ok (.string sL) wrr := by rw [← hsL]; exact run_bys_string (B := wra.heap.size) (HYa.out.below hgc) HLa.out 25 5 9 Try.underlying25 Try.underlying5 Try.underlying9
      have hs_2 : (convert 25 9 (.slice Arc nrc crc)).run Try.prog wrr = .ok (.string sL) wrr := by rw [← hsL]; exact run_bys_string (B := wrr.heap.size) (BysIn.bys (hrc.ret (by intro g hg; simp at hg; rcases hg with rfl | rfl; exact (cells4 E17_wra.out).2.2.2.2; exact (cells4 E15_wra.out).2.2.2.2) hgc.size) (fun b h => h.1)) hlc.out 25 5 9 Try.underlying25 Try.underlying5 Try.underlying9
      have HsL := Lib.hid hsL
      clear hsL hrc hlc hmc hcc hgc z0 z1 z2 z3 zl HYa HLa
      obtain ⟨z0, z1, z2, z3, zl⟩ := cells4 (HBX.out wrr HB_wrr.out)
      go_wp2_with fail
      refine Calls.mono (disk.dback A n c room fuse down p5 n5 c5 a4 x5 fs _ (Off [w7.heap.size, w4.heap.size] wrr) wrr Off.lt (HFo.out wrr [w7.heap.size, w4.heap.size] (HWW.out wrr HB_wrr.out) how2) HN.out HNC.out HCM.out HRI.out HFU.out HSH.out (HK5.out wrr [w7.heap.size, w4.heap.size] (HWW.out wrr HB_wrr.out) how2) HKN5.out HKC5.out HKM5.out hs5 H4.out HV6.out) ?_
      rintro ea wa6 ⟨Aa6, na6, ca6, rfl, hra, hla, hma, hca, hga⟩
      have HB_wa6 : Hid (Below W0.heap.size W0 wa6) := Lib.hid (HB_wrr.out.trans (hga.mono HB_wrr.out.size))
      have E15_wa6 : Hid (wa6.heap[w4.heap.size]? = some (.cells #[.slice Aa5 na5 ca5, .int .i64 rm5, .int .i64 fz5, .bool dn5] 24 (0, 0))) := Lib.hid ((hga.block _ (cells4 E15_wrr.out).2.2.2.2).trans E15_wrr.out)
      have E17_wa6 : Hid (wa6.heap[w7.heap.size]? = some (.cells #[.slice Ac5 na5 cc5, .int .i64 rm5, .int .i64 fz5, .bool dn5] 24 (0, 0))) := Lib.hid ((hga.block _ (cells4 E17_wrr.out).2.2.2.2).trans E17_wrr.out)
      have HFa : Hid (FilesIn wa6 (Off [w7.heap.size, w4.heap.size] wa6) Aa6 F6) := Lib.hid (hra.ret (by intro g hg; simp at hg; rcases hg with rfl | rfl; exact (cells4 E17_wrr.out).2.2.2.2; exact (cells4 E15_wrr.out).2.2.2.2) hga.size)
      have HLa : Hid (F6.length = na6 ∧ na6 ≤ ca6 ∧ ca6 ≤ maxLen) := Lib.hid ⟨hla.out, hma, hca⟩
      clear hra hla hma hca hga z0 z1 z2 z3 zl
      obtain ⟨z0, z1, z2, z3, zl⟩ := cells4 (HBX.out wa6 HB_wa6.out)
      obtain ⟨s0, t0⟩ := block_cell E15_wa6.out 0 _ rfl
      obtain ⟨s1, t1⟩ := block_cell E15_wa6.out 1 _ rfl
      obtain ⟨s2, t2⟩ := block_cell E15_wa6.out 2 _ rfl
      obtain ⟨s3, t3⟩ := block_cell E15_wa6.out 3 _ rfl
      go_wp2_with fail
      obtain ⟨wb6, hwb⟩ : ∃ x, x = ((((wa6.setCell ⟨w4.heap.size, 0, none⟩ (.slice Aa6 na6 ca6)).setCell ⟨w4.heap.size, 1, none⟩ (.int .i64 rm6)).setCell ⟨w4.heap.size, 2, none⟩ (.int .i64 fz6)).setCell ⟨w4.heap.size, 3, none⟩ (.bool dn6)) := ⟨_, rfl⟩
      rw [← hwb]
      have HB_wb6 : Hid (Below W0.heap.size W0 wb6) := Lib.hid (by rw [hwb]; exact below_set4 HB_wa6.out h15 _ _ _ _)
      have E15_wb6 : Hid (wb6.heap[w4.heap.size]? = some (.cells #[.slice Aa6 na6 ca6, .int .i64 rm6, .int .i64 fz6, .bool dn6] 24 (0, 0))) := Lib.hid (by rw [hwb]; exact heap_set4_self _ _ _ _ E15_wa6.out)
      have E17_wb6 : Hid (wb6.heap[w7.heap.size]? = some (.cells #[.slice Ac5 na5 cc5, .int .i64 rm5, .int .i64 fz5, .bool dn5] 24 (0, 0))) := Lib.hid (by rw [hwb]; exact (heap_set4 _ _ _ _ h1715).trans E17_wa6.out)
      have HFb : Hid (FilesIn wb6 (Off [w7.heap.size, w4.heap.size] wb6) Aa6 F6) := Lib.hid (by rw [hwb]; exact HFa.out.set4 (by simp) _ _ _ _)
      clear hwb HFa s0 t0 s1 t1 s2 t2 s3 t3 z0 z1 z2 z3 zl
      refine Calls.mono ((by have hh := disk.rback A p5 n c n5 c5 room fuse a4 down fs x5 (Off [w7.heap.size, w4.heap.size] wb6) wb6 Off.lt (HFo.out wb6 [w7.heap.size, w4.heap.size] (HWW.out wb6 HB_wb6.out) how2) HN.out HN6.out HNC.out HCM.out HRI.out HFU.out (ints_in.2 (IntsIn.keep (HK5.out wb6 [w7.heap.size, w4.heap.size] (HWW.out wb6 HB_wb6.out) how2) (alike_refl _ _) Off.lt)) HKN5.out (by omega) H4.out; rw [HV6.out] at hh; exact hh)) ?_
      rintro ec wr6 ⟨Ac6, nc6, cc6, rfl, hrc, hlc, hmc, hcc, hgc⟩
      have HB_wr6 : Hid (Below W0.heap.size W0 wr6) := Lib.hid (HB_wb6.out.trans (hgc.mono HB_wb6.out.size))
      have E15_wr6 : Hid (wr6.heap[w4.heap.size]? = some (.cells #[.slice Aa6 na6 ca6, .int .i64 rm6, .int .i64 fz6, .bool dn6] 24 (0, 0))) := Lib.hid ((hgc.block _ (cells4 E15_wb6.out).2.2.2.2).trans E15_wb6.out)
      have E17_wr6 : Hid (wr6.heap[w7.heap.size]? = some (.cells #[.slice Ac5 na5 cc5, .int .i64 rm5, .int .i64 fz5, .bool dn5] 24 (0, 0))) := Lib.hid ((hgc.block _ (cells4 E17_wb6.out).2.2.2.2).trans E17_wb6.out)
      have HFac : Hid (FilesIn wr6 (Off [w7.heap.size, w4.heap.size] wr6) Aa6 F6) := Lib.hid (HFb.out.grow hgc)
      have HFc : Hid (FilesIn wr6 (Off [w7.heap.size, w4.heap.size] wr6) Ac6 F6) := Lib.hid (hrc.ret (by intro g hg; simp at hg; rcases hg with rfl | rfl; exact (cells4 E17_wb6.out).2.2.2.2; exact (cells4 E15_wb6.out).2.2.2.2) hgc.size)
      obtain rfl : na6 = nc6 := by rw [← HLa.out.1, hlc.out]
      have HLc : Hid (na6 ≤ cc6 ∧ cc6 ≤ maxLen) := Lib.hid ⟨hmc, hcc⟩
      clear hrc hlc hmc hcc hgc HFb
      obtain ⟨x0_, x1_, x2_, x3_, xl_⟩ := cells4 E15_wr6.out
      obtain ⟨s0, t0⟩ := block_cell E17_wr6.out 0 _ rfl
      obtain ⟨s1, t1⟩ := block_cell E17_wr6.out 1 _ rfl
      obtain ⟨s2, t2⟩ := block_cell E17_wr6.out 2 _ rfl
      obtain ⟨s3, t3⟩ := block_cell E17_wr6.out 3 _ rfl
      go_wp2_with fail
      obtain ⟨wd6, hwd⟩ : ∃ x, x = ((((wr6.setCell ⟨w7.heap.size, 0, none⟩ (.slice Ac6 na6 cc6)).setCell ⟨w7.heap.size, 1, none⟩ (.int .i64 rm6)).setCell ⟨w7.heap.size, 2, none⟩ (.int .i64 fz6)).setCell ⟨w7.heap.size, 3, none⟩ (.bool dn6)) := ⟨_, rfl⟩
      rw [← hwd]
      have HB_wd6 : Hid (Below W0.heap.size W0 wd6) := Lib.hid (by rw [hwd]; exact below_set4 HB_wr6.out h17 _ _ _ _)
      have E15_wd6 : Hid (wd6.heap[w4.heap.size]? = some (.cells #[.slice Aa6 na6 ca6, .int .i64 rm6, .int .i64 fz6, .bool dn6] 24 (0, 0))) := Lib.hid (by rw [hwd]; exact (heap_set4 _ _ _ _ h1517).trans E15_wr6.out)
      have E17_wd6 : Hid (wd6.heap[w7.heap.size]? = some (.cells #[.slice Ac6 na6 cc6, .int .i64 rm6, .int .i64 fz6, .bool dn6] 24 (0, 0))) := Lib.hid (by rw [hwd]; exact heap_set4_self _ _ _ _ E17_wr6.out)
      have HFad : Hid (FilesIn wd6 (Off [w7.heap.size, w4.heap.size] wd6) Aa6 F6) := Lib.hid (by rw [hwd]; exact HFac.out.set4 (by simp) _ _ _ _)
      have HFcd : Hid (FilesIn wd6 (Off [w7.heap.size, w4.heap.size] wd6) Ac6 F6) := Lib.hid (by rw [hwd]; exact HFc.out.set4 (by simp) _ _ _ _)
      clear hwd HFac HFc x0_ x1_ x2_ x3_ xl_ s0 t0 s1 t1 s2 t2 s3 t3
      refine Calls.mono (same_is Aa6 Ac6 na6 ca6 cc6 rm6 fz6 dn6 F6 x6 wd6 HFad.out HFcd.out HLa.out.1 (Nat.le_trans HLa.out.2.1 HLa.out.2.2)) ?_
      rintro ee we6 ⟨rfl, hbe⟩
      have HB_we6 : Hid (Below W0.heap.size W0 we6) := Lib.hid (HB_wd6.out.trans (hbe.mono HB_wd6.out.size))
      have E15_we6 : Hid (we6.heap[w4.heap.size]? = some (.cells #[.slice Aa6 na6 ca6, .int .i64 rm6, .int .i64 fz6, .bool dn6] 24 (0, 0))) := Lib.hid ((hbe.block _ (cells4 E15_wd6.out).2.2.2.2).trans E15_wd6.out)
      have E17_we6 : Hid (we6.heap[w7.heap.size]? = some (.cells #[.slice Ac6 na6 cc6, .int .i64 rm6, .int .i64 fz6, .bool dn6] 24 (0, 0))) := Lib.hid ((hbe.block _ (cells4 E17_wd6.out).2.2.2.2).trans E17_wd6.out)
      clear hbe HFad HFcd HLa HLc
      go_wp2
      go_ret
      exact ⟨rfl, HWW.out we6 HB_we6.out⟩
      -- OPS ENDS

set_option maxRecDepth 100000 in
theorem lifted (os : Os) (started : os.Started) (H : Type) (enc : TypeId × Value → H) :
    ReturnsInHanded {} Try.checked os 3 .any (Rows.diskRightSpec.pre6 enc Try.prog Try.f3 Rows.diskRightRow.domain false) (Rows.diskRightSpec.post enc Try.prog Try.f3 false true false false) := by
  refine returnsInHanded_of_change (C := Try.checked) own started (by kernel_rfl) Try.func3
    (ChangeSpec.witness6 (enc := enc) (C := Try.checked) false ⟨#[], #[.agg #[.slice none 0 0, .int .i64 0, .int .i64 0, .bool false], .string ByteArray.empty, .string ByteArray.empty, .slice none 0 0, .int .i64 0, .slice none 0 0, .int .i64 0], []⟩ 8 (by kernel_rfl) (by kernel_rfl) (by kernel_rfl) (by kernel_rfl)) ?_
  intro W base args ds gs before hval0 hW hcnd _
  have hval : ∀ (j : Nat) t v, Try.f3.params[j]? = some t → args[j]? = some v → Value.okWide Try.prog W .any base t v := hval0
  have hW' := hW
  obtain ⟨p, q, hA0, hV, rfl, hfz, hnd⟩ := hW
  have hA : DataW.TrodAll enc Try.prog W 0 (fun _ => true) true Try.f3.params.toList args.toList ds p := hA0
  rw [Try.params3] at hA hval
  obtain ⟨v0, vs0, d0, ds0, p0_, q0, hargs, rfl, rfl, h0, r0⟩ := trodAll_cons hA
  obtain ⟨v1, vs1, d1, ds1, p1_, q1, rfl, rfl, rfl, h1, r1⟩ := trodAll_cons r0
  obtain ⟨v2, vs2, d2, ds2, p2_, q2, rfl, rfl, rfl, h2, r2⟩ := trodAll_cons r1
  obtain ⟨v3, vs3, d3, ds3, p3_, q3, rfl, rfl, rfl, h3, r3⟩ := trodAll_cons r2
  obtain ⟨v4, vs4, d4, ds4, p4_, q4, rfl, rfl, rfl, h4, r4⟩ := trodAll_cons r3
  obtain ⟨v5, vs5, d5, ds5, p5_, q5, rfl, rfl, rfl, h5, r5⟩ := trodAll_cons r4
  obtain ⟨v6, vs6, d6, ds6, p6_, q6, rfl, rfl, rfl, h6, r6⟩ := trodAll_cons r5
  obtain ⟨rfl, rfl, rfl⟩ := trodAll_nil r6
  obtain rfl : args = #[v0, v1, v2, v3, v4, v5, v6] := by cases args; simp_all
  obtain ⟨rfl, rfl⟩ := trodVars_none hV
  obtain ⟨cs0, rfl, hsz0⟩ := okWide_struct Try.underlying24 (hval 0 24 v0 rfl rfl)
  have k0 := h0
  have lt0 : ∀ x ∈ p0_, x.block < W.heap.size := by obtain ⟨m, hm⟩ := k0; exact DataW.trod_lt m _ _ _ hm
  obtain ⟨x0, w0⟩ := of_arg of_disk k0
  obtain ⟨a1, rfl, rfl, rfl, w1⟩ := open_string Try.underlying9 (hval 1 9 v1 rfl rfl) h1
  obtain ⟨a2, rfl, rfl, rfl, w2⟩ := open_string Try.underlying9 (hval 2 9 v2 rfl rfl) h2
  obtain ⟨p3, n3, c3, rfl⟩ := okWide_slice Try.underlying25 (hval 3 25 v3 rfl rfl)
  have k3 := h3
  have lt3 : ∀ x ∈ p3_, x.block < W.heap.size := by obtain ⟨m, hm⟩ := k3; exact DataW.trod_lt m _ _ _ hm
  obtain ⟨x3, w3⟩ := of_arg (of_bytes Try.underlying25 Try.underlying5 (by kernel_rfl)) k3
  obtain ⟨a4, rfl, rfl, rfl, w4⟩ := open_int Try.underlying3 (hval 4 3 v4 rfl rfl) h4
  obtain ⟨p5, n5, c5, rfl⟩ := okWide_slice Try.underlying26 (hval 5 26 v5 rfl rfl)
  have k5 := h5
  have lt5 : ∀ x ∈ p5_, x.block < W.heap.size := by obtain ⟨m, hm⟩ := k5; exact DataW.trod_lt m _ _ _ hm
  obtain ⟨x5, w5⟩ := of_arg (of_ints Try.underlying26 Try.underlying3 (by kernel_rfl)) k5
  obtain ⟨a6, rfl, rfl, rfl, w6⟩ := open_int Try.underlying3 (hval 6 3 v6 rfl rfl) h6
  clear hA0 hval0
  refine (walk cs0 x0 a1 a2 p3 n3 c3 x3 a4 p5 n5 c5 x5 a6 W w0 w1 w2 w3 w4 w5 w6).mono fun e W' ⟨he, bel⟩ => ?_
  subst he
  exact ⟨_, rfl, _, _, _, [], _, [], hW', trodAll_mk1 (shut_bool Try.underlying4 _), (trodAll_cons_mk (Below.trod laidOut (by kernel_rfl) (of_decide_eq_true (by kernel_rfl)) k0 bel lt0) (trodAll_cons_mk (shut_string Try.underlying9 w1) (trodAll_cons_mk (shut_string Try.underlying9 w2) (trodAll_cons_mk (Below.trod laidOut (by kernel_rfl) (of_decide_eq_true (by kernel_rfl)) k3 bel lt3) (trodAll_cons_mk (shut_int Try.underlying3 w4) (trodAll_cons_mk (Below.trod laidOut (by kernel_rfl) (of_decide_eq_true (by kernel_rfl)) k5 bel lt5) (trodAll_cons_mk (shut_int Try.underlying3 w6) trodAll_mk0))))))), rfl, bel.frame _, fun h => by cases h⟩

theorem over : Rows.diskRightRow.holds Try.pinned (OpenSpec.ofChange Rows.diskRightSpec) :=
  OpenClaim.holds_of_wide 3 Try.f3 rfl rfl rfl rfl rfl rfl rfl ⟨rfl, rfl, rfl, rfl, rfl⟩ rfl rfl rfl rfl rfl (by kernel_rfl) Try.func3 (by kernel_rfl)
    (of_decide_eq_true (by kernel_rfl)) (by unfold Func.isWrapper; first | (rw [if_pos (by decide +kernel)]; kernel_rfl) | (rw [if_neg (by decide +kernel)]; exact ⟨rfl, rfl⟩))
    (fun os started H enc _ => lifted os started H enc)

theorem proved : Rows.DiskRightSaid := over
#print axioms proved
end Go.Proofs.Ytjmjpnmlpdbbpaa.diskRight
