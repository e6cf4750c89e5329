/-
  PROVED: the law DiskBack answers true at every input, and leaves what it was given as it was.
  CONDITIONS: none.
-/
import Derived.Test.YtbbmbfjlipgglaaRows
import Derived.WalkKit
import Derived.ProofKit
import Derived.OpenShut
import Derived.ShutString
import Derived.ChangeOld
import Derived.Below
import Derived.Test.YtbbmbfjlipgglaaDiskAwake
import Derived.Test.YtbbmbfjlipgglaaDiskBegins
import Derived.Test.YtbbmbfjlipgglaaGiven
import Derived.StillTailTactics
import Derived.BigQuiet
import Derived.Deep.CutRange
import Derived.Deep.RegionHeld3
namespace Go.Proofs.Ytbbmbfjlipgglaa.diskBack
open Go.ChangeShapes Go.WideShapes Go.ChangeAt Go.RowKit
open Go.ChangeMaps (open_string shut_string)
set_option linter.unusedVariables false

theorem own : ownKnob Try.prog.godebug = none := by kernel_rfl
theorem laidOut : laidOutB Try.prog = true := by kernel_rfl

theorem quiet_one {P : Program} {f : FuncId} {args : Array Value} {w : World} {m : Nat} {v : Value} (h : Calls P f args (w.drewN (1 + m)) fun e w' => e = .returned v ∧ ∃ m', w' = (w.drewN (1 + m)).drewN m') :
    Calls P f args (w.drewN (1 + m)) fun e w' => e = .returned v ∧ ∃ m', w' = w.drewN (1 + m') := h.mono fun _ _ ⟨he, k, hk⟩ => ⟨he, m + k, by rw [hk, World.drewN_drewN, Nat.add_assoc]⟩

theorem short_is (A : Option Addr) (n c : Nat) (room fuse : Int) (down : Bool) (fs : List FileD) (v : Bool) (w : World) (hf : Files w w.heap.size A fs) (hn : fs.length = n) (hc : n ≤ maxLen) (hv : disk.shortB fs = v) :
    Calls Try.prog 9 #[.agg #[.slice A n c, .int .i64 room, .int .i64 fuse, .bool down]] w fun e w' => e = .returned (.bool v) ∧ Below w.heap.size w w' := by
  rw [← hv]; exact disk.rshort A n c room fuse down fs w hf hn hc

set_option maxHeartbeats 12000000 in
theorem walk (cs0 : Array Value) (x0 : DiskD) (p1 : Option Addr) (n1 c1 : Nat) (x1 : List Int) (p2 : Option Addr) (n2 c2 : Nat) (x2 : List Int) (w : World) (w0 : rdDisk w (Lt w.heap.size) cs0.toList x0) (w1 : (rdInts .i64) w (Lt w.heap.size) [.slice p1 n1 c1] x1) (w2 : (rdInts .i64) w (Lt w.heap.size) [.slice p2 n2 c2] x2) :
    Calls Try.prog 4 #[.agg cs0, .slice p1 n1 c1, .slice p2 n2 c2] w fun e w' => e = .returned (.bool true) ∧ Below w.heap.size w w' := by
  obtain ⟨fs, room, fuse, down⟩ := x0
  obtain ⟨A, n, c, he, hf0, hn, hnc, hcm, hr, hfu⟩ := w0
  simp only at he hf0 hn hr hfu
  obtain rfl : cs0 = #[.slice A n c, .int .i64 room, .int .i64 fuse, .bool down] := Array.toList_inj.1 he
  obtain ⟨q1, m1, k1, e1, hk1, hkn1, hkc1, hkm1⟩ := w1
  obtain ⟨rfl, rfl, rfl⟩ : p1 = q1 ∧ n1 = m1 ∧ c1 = k1 := by simpa using e1
  obtain ⟨q2, m2, k2, e2, hk2, hkn2, hkc2, hkm2⟩ := w2
  obtain ⟨rfl, rfl, rfl⟩ : p2 = q2 ∧ n2 = m2 ∧ c2 = k2 := by simpa using e2
  have HR := Lib.hid (inI_of_wf hr)
  have HFU := Lib.hid (inI_of_wf hfu)
  have HN := Lib.hid hn; have HNC := Lib.hid hnc; have HCM := Lib.hid hcm
  have HC : Hid (n ≤ maxLen) := Lib.hid (Nat.le_trans hnc hcm)
  have HKN1 := Lib.hid hkn1; have HKC1 := Lib.hid hkc1; have HKM1 := Lib.hid hkm1
  have HKN2 := Lib.hid hkn2; have HKC2 := Lib.hid hkc2; have HKM2 := Lib.hid hkm2
  have HF : Hid (∀ (W : World) (own : List Nat), Below w.heap.size w W → (∀ g ∈ own, w.heap.size ≤ g) → FilesIn W (Off own W) A fs) := Lib.hid (fun W own hb ho => hf0.given hb ho)
  have HFS : Hid (∀ W, Below w.heap.size w W → Files W W.heap.size A fs) := Lib.hid (fun W hb => (hf0.below (fun _ h => h) hb).more (fun b h => Nat.lt_of_lt_of_le h hb.size))
  have HK1 : Hid (∀ (W : World) (own : List Nat), Below w.heap.size w W → (∀ g ∈ own, w.heap.size ≤ g) → IntsIn .i64 W (Off own W) p1 x1) := Lib.hid (fun W own hb ho => hk1.given hb ho)
  have HK2 : Hid (∀ (W : World) (own : List Nat), Below w.heap.size w W → (∀ g ∈ own, w.heap.size ≤ g) → IntsIn .i64 W (Off own W) p2 x2) := Lib.hid (fun W own hb ho => hk2.given hb ho)
  have ha0 : ∀ o : Obj, Below w.heap.size w (w.alloc o) := fun o => (Below.refl _ _).alloc (Nat.le_refl _) o
  have HA0 := Lib.hid ha0
  have K0 := Lib.hid (heap_alloc_new w (.cells #[.slice A n c, .int .i64 room, .int .i64 fuse, .bool down] 24))
  clear hr hfu hn hnc hcm hkn1 hkc1 hkm1 hkn2 hkc2 hkm2 ha0 he e1 e2 hf0 hk1 hk2
  obtain ⟨v1, HV1⟩ : ∃ v, Hid (disk.shortB fs = v) := ⟨_, Lib.hid rfl⟩
  obtain ⟨v2, HV2⟩ : ∃ v, Hid (disk.rightB ⟨fs, room, fuse, down⟩ = v) := ⟨_, Lib.hid rfl⟩
  by_cases hmain : v1 = true ∧ n1 ≤ 80 ∧ n2 ≤ 80 ∧ v2 = true
  case neg =>
    have hcase : v1 = false ∨ (v1 = true ∧ 80 < n1) ∨ (v1 = true ∧ n1 ≤ 80 ∧ 80 < n2) ∨ (v1 = true ∧ n1 ≤ 80 ∧ n2 ≤ 80 ∧ v2 = false) := by
      rcases v1 with _ | _ <;> rcases v2 with _ | _ <;> simp at hmain ⊢ <;> omega
    clear hmain
    rcases hcase with rfl | ⟨rfl, hs1⟩ | ⟨rfl, hs1, hs2⟩ | ⟨rfl, hs1, hs2, rfl⟩
    all_goals
      first | have HSH : Hid (disk.shortB fs = true) := HV1 | skip
      go_enter Try.func4, Try.ntmps4
      go_wp2_with (first
        | ((with_reducible refine (disk.awake_any _).mono ?_); rintro e w1 ⟨rfl, hg1⟩; have hq1 := (HA0.out _).trans (hg1.mono (by simp)); have hz1 : w.heap.size < w1.heap.size := (by have := hg1.size; simp at this; omega); have E0_1 := Lib.hid ((hg1.block w.heap.size (by simp)).trans K0.out); obtain ⟨ax0_1, af0_1⟩ := block_cell E0_1.out 0 _ rfl; obtain ⟨ax1_1, af1_1⟩ := block_cell E0_1.out 1 _ rfl; obtain ⟨ax2_1, af2_1⟩ := block_cell E0_1.out 2 _ rfl; obtain ⟨ax3_1, af3_1⟩ := block_cell E0_1.out 3 _ rfl)
        | ((with_reducible refine (short_is A n c room fuse down fs _ _ (HFS.out _ hq1) HN.out HC.out HV1.out).mono ?_); rintro e w2 ⟨rfl, hg2⟩; have hq2 := hq1.trans (hg2.mono hq1.size); have hz2 : w.heap.size < w2.heap.size := (by have := hg2.size; omega); have E0_2 := Lib.hid ((hg2.block w.heap.size hz1).trans E0_1.out); obtain ⟨ax0_2, af0_2⟩ := block_cell E0_2.out 0 _ rfl; obtain ⟨ax1_2, af1_2⟩ := block_cell E0_2.out 1 _ rfl; obtain ⟨ax2_2, af2_2⟩ := block_cell E0_2.out 2 _ rfl; obtain ⟨ax3_2, af3_2⟩ := block_cell E0_2.out 3 _ rfl)
        | ((with_reducible refine (disk.dright A n c room fuse down fs _ (Off [w.heap.size] w2) w2 Off.lt (HF.out _ _ hq2 (by simp)) HN.out HNC.out HCM.out HR.out HFU.out HSH.out HV2.out).mono ?_); rintro e w3 ⟨rfl, hg3⟩; have hq3 := hq2.trans (hg3.mono hq2.size); have hz3 : w.heap.size < w3.heap.size := (by have := hg3.size; omega); have E0_3 := Lib.hid ((hg3.block w.heap.size hz2).trans E0_2.out); obtain ⟨ax0_3, af0_3⟩ := block_cell E0_3.out 0 _ rfl; obtain ⟨ax1_3, af1_3⟩ := block_cell E0_3.out 1 _ rfl; obtain ⟨ax2_3, af2_3⟩ := block_cell E0_3.out 2 _ rfl; obtain ⟨ax3_3, af3_3⟩ := block_cell E0_3.out 3 _ rfl))
      go_ret
      first | exact ⟨rfl, hq3⟩ | exact ⟨rfl, hq2⟩
  obtain ⟨rfl, hs1, hs2, rfl⟩ := hmain
  have HSH : Hid (disk.shortB fs = true) := HV1
  have HB1 : Hid (disk.backD ⟨fs, room, fuse, down⟩ x1 (-1) = (⟨disk.backF x1 fs, room, -1, false⟩, 0)) := Lib.hid (by unfold disk.backD; rw [if_pos ⟨HV2.out, by omega⟩])
  have HRB : Hid (disk.rightB ⟨disk.backF x1 fs, room, -1, false⟩ = true) := Lib.hid (by have := disk.right_back (keep := x1) (fuse := -1) HV2.out; rw [HB1.out] at this; exact this)
  have HSH4 : Hid (disk.shortB (disk.backF x1 fs) = true) := Lib.hid (disk.right_short HRB.out)
  have HOK : Hid (∀ f ∈ fs, disk.fileOk f = true) := Lib.hid (disk.right_files HV2.out).2.1
  have hn70 : n ≤ 70 := by rw [← HN.out]; exact (disk.short_iff.1 HSH.out).1
  have HB2 : Hid (disk.backD ⟨disk.backF x1 fs, room, -1, false⟩ x2 (-1) = (⟨disk.backF x1 fs, room, -1, false⟩, 0)) := Lib.hid (by
    unfold disk.backD
    rw [if_pos ⟨HRB.out, by omega⟩]
    show (DiskD.mk (disk.backF x2 (disk.backF x1 fs)) room (-1) false, (0 : Int)) = _
    rw [disk.back_again x2 (fun g hg => by
      obtain ⟨i, f, _, hf, rfl⟩ := disk.mem_back hg
      exact (disk.kept_ok (HOK.out f hf)).2.2.1)])
  go_enter Try.func4, Try.ntmps4
  go_wp2_with (first
    | ((with_reducible refine (disk.awake_any _).mono ?_); rintro e w1 ⟨rfl, hg1⟩; have hq1 := (HA0.out _).trans (hg1.mono (by simp)); have hz1 : w.heap.size < w1.heap.size := (by have := hg1.size; simp at this; omega); have E0_1 := Lib.hid ((hg1.block w.heap.size (by simp)).trans K0.out); obtain ⟨ax0_1, af0_1⟩ := block_cell E0_1.out 0 _ rfl; obtain ⟨ax1_1, af1_1⟩ := block_cell E0_1.out 1 _ rfl; obtain ⟨ax2_1, af2_1⟩ := block_cell E0_1.out 2 _ rfl; obtain ⟨ax3_1, af3_1⟩ := block_cell E0_1.out 3 _ rfl)
    | ((with_reducible refine (short_is A n c room fuse down fs _ _ (HFS.out _ hq1) HN.out HC.out HV1.out).mono ?_); rintro e w2 ⟨rfl, hg2⟩; have hq2 := hq1.trans (hg2.mono hq1.size); have hz2 : w.heap.size < w2.heap.size := (by have := hg2.size; omega); have E0_2 := Lib.hid ((hg2.block w.heap.size hz1).trans E0_1.out); obtain ⟨ax0_2, af0_2⟩ := block_cell E0_2.out 0 _ rfl; obtain ⟨ax1_2, af1_2⟩ := block_cell E0_2.out 1 _ rfl; obtain ⟨ax2_2, af2_2⟩ := block_cell E0_2.out 2 _ rfl; obtain ⟨ax3_2, af3_2⟩ := block_cell E0_2.out 3 _ rfl)
    | ((with_reducible refine (disk.dright A4 n c4 room (-1) false (disk.backF x1 fs) true (Off [w4.heap.size, w.heap.size] (w4.alloc (.cells #[.slice A4 n c4, .int .i64 room, .int .i64 (-1), .bool false] 24))) _ Off.lt R4 hl4.out hm4 hc4 HR.out (by unfold inI; omega) HSH4.out HRB.out).mono ?_); rintro e w5 ⟨rfl, hg5⟩; have hq5 := (hq4.alloc hq4.size _).trans (hg5.mono (by have := hq4.size; simp <;> omega)); have hz5 : w4.heap.size < w5.heap.size := (by have := hg5.size; simp at this; omega); have hz5b : w.heap.size < w5.heap.size := (by omega); have E0_5 := Lib.hid ((hg5.block w.heap.size (by simp <;> omega)).trans ((Below.heap_alloc _ _ _ hz4).trans E0_4.out)); have E7_5 := Lib.hid ((hg5.block w4.heap.size (by simp)).trans K4.out); obtain ⟨ax0_5, af0_5⟩ := block_cell E0_5.out 0 _ rfl; obtain ⟨ax1_5, af1_5⟩ := block_cell E0_5.out 1 _ rfl; obtain ⟨ax2_5, af2_5⟩ := block_cell E0_5.out 2 _ rfl; obtain ⟨ax3_5, af3_5⟩ := block_cell E0_5.out 3 _ rfl; obtain ⟨bx0_5, bf0_5⟩ := block_cell E7_5.out 0 _ rfl; obtain ⟨bx1_5, bf1_5⟩ := block_cell E7_5.out 1 _ rfl; obtain ⟨bx2_5, bf2_5⟩ := block_cell E7_5.out 2 _ rfl; obtain ⟨bx3_5, bf3_5⟩ := block_cell E7_5.out 3 _ rfl; have R5 := R4.grow hg5)
    | ((with_reducible refine (disk.dright A n c room fuse down fs _ (Off [w.heap.size] w2) w2 Off.lt (HF.out _ _ hq2 (by simp)) HN.out HNC.out HCM.out HR.out HFU.out HSH.out HV2.out).mono ?_); rintro e w3 ⟨rfl, hg3⟩; have hq3 := hq2.trans (hg3.mono hq2.size); have hz3 : w.heap.size < w3.heap.size := (by have := hg3.size; omega); have E0_3 := Lib.hid ((hg3.block w.heap.size hz2).trans E0_2.out); obtain ⟨ax0_3, af0_3⟩ := block_cell E0_3.out 0 _ rfl; obtain ⟨ax1_3, af1_3⟩ := block_cell E0_3.out 1 _ rfl; obtain ⟨ax2_3, af2_3⟩ := block_cell E0_3.out 2 _ rfl; obtain ⟨ax3_3, af3_3⟩ := block_cell E0_3.out 3 _ rfl)
    | ((with_reducible refine (disk.dback A n c room fuse down p1 n1 c1 (-1) x1 fs _ (Off [w.heap.size] w3) w3 Off.lt (HF.out _ _ hq3 (by simp)) HN.out HNC.out HCM.out HR.out HFU.out HSH.out (HK1.out _ _ hq3 (by simp)) HKN1.out HKC1.out HKM1.out hs1 (by unfold inI; omega) HB1.out).mono ?_); rintro e w4 ⟨A4, n4, c4, rfl, hr4, hl4, hm4, hc4, hg4⟩; obtain rfl : n = n4 := ((disk.back_len _ _).trans HN.out).symm.trans hl4.out; have hq4 := hq3.trans (hg4.mono hq3.size); have hz4 : w.heap.size < w4.heap.size := (by have := hg4.size; omega); have E0_4 := Lib.hid ((hg4.block w.heap.size hz3).trans E0_3.out); obtain ⟨ax0_4, af0_4⟩ := block_cell E0_4.out 0 _ rfl; obtain ⟨ax1_4, af1_4⟩ := block_cell E0_4.out 1 _ rfl; obtain ⟨ax2_4, af2_4⟩ := block_cell E0_4.out 2 _ rfl; obtain ⟨ax3_4, af3_4⟩ := block_cell E0_4.out 3 _ rfl; have R4 := (hr4.ret (by intro g hg; simp at hg; subst hg; exact hz3) hg4.size).mine (.cells #[.slice A4 n c4, .int .i64 room, .int .i64 (-1), .bool false] 24); have K4 := Lib.hid (heap_alloc_new w4 (.cells #[.slice A4 n c4, .int .i64 room, .int .i64 (-1), .bool false] 24))))
  have HN4 : Hid ((disk.backF x1 fs).length = n) := hl4
  go_loopw [9] (fun i wr => ∃ k : Nat, k ≤ n ∧ i = .int .i64 k ∧ Below w5.heap.size w5 wr) (fun i _ => n - (intOf i).toNat)
  case atStart => exact ⟨0, Nat.zero_le _, rfl, Below.refl _ _⟩
  case round =>
    obtain ⟨k, hk, rfl, hbr⟩ := hrel
    have hsz := hbr.size
    have hq : Below w.heap.size w wr := hq5.trans (hbr.mono hq5.size)
    have E0r := Lib.hid ((hbr.block w.heap.size hz5b).trans E0_5.out)
    have E7r := Lib.hid ((hbr.block w4.heap.size hz5).trans E7_5.out)
    clear ax0_1 af0_1 ax1_1 af1_1 ax2_1 af2_1 ax3_1 af3_1 ax0_2 af0_2 ax1_2 af1_2 ax2_2 af2_2 ax3_2 af3_2 ax0_3 af0_3 ax1_3 af1_3 ax2_3 af2_3 ax3_3 af3_3 ax0_4 af0_4 ax1_4 af1_4 ax2_4 af2_4 ax3_4 af3_4 ax0_5 af0_5 ax1_5 af1_5 ax2_5 af2_5 ax3_5 af3_5 bx0_5 bf0_5 bx1_5 bf1_5 bx2_5 bf2_5 bx3_5 bf3_5
    obtain ⟨ax0, af0⟩ := block_cell E0r.out 0 _ rfl
    obtain ⟨bx0, bf0⟩ := block_cell E7r.out 0 _ rfl
    have R7 := R5.grow hbr
    by_cases hlt : k < n
    · obtain ⟨b1, o1, f, A1, m1, d1, rfl, hb1, HX1, cell0, cell1, cell2, q1, q2, q3, q4, q5, q6⟩ := (HF.out wr [] hq (by simp)).at_ (j := k) (by rw [HN.out]; exact hlt)
      obtain ⟨b2, o2, g, A2, m2, d2, rfl, hb2, HX2, dell0, dell1, dell2, r1, r2, r3, r4, r5, r6⟩ := R7.at_ (j := k) (by rw [HN4.out]; exact hlt)
      obtain rfl : disk.keptOf x1 k f = g := by have := HX2.out; rw [disk.back_get, HX1.out] at this; injection this
      obtain ⟨t1, t2, t3, t4, t5, t6⟩ := disk.kept_ok (keep := x1) (i := k) (HOK.out f (List.mem_of_getElem? HX1.out))
      rw [t2] at dell0
      have hgs : (disk.keptOf x1 k f).sure = (m2 : Int) := by rw [← t3, r3.out]
      rw [hgs] at dell2
      obtain ⟨u1, u2, u3, u4⟩ := (disk.file_iff f).1 (HOK.out f (List.mem_of_getElem? HX1.out))
      obtain ⟨s, hs⟩ : ∃ s : Nat, f.sure = (s : Int) := ⟨f.sure.toNat, by omega⟩
      rw [hs] at cell2 u3 t5
      rw [q3.out] at u3
      have hsm : s ≤ m1 := by omega
      have hb1' := hb1.1
      have hb2' := hb2.1
      have hsn : (s : Int).toNat = s := by omega
      rw [hsn] at t5
      have HQA : Hid (∀ W, Below wr.heap.size wr W → Bys W wr.heap.size A1 f.data) := Lib.hid (fun W hb => ints_in.2 (IntsIn.keep (q2.below Off.lt hb) (alike_refl _ _) Off.lt))
      have HQB : Hid (∀ W, Below wr.heap.size wr W → Bys W wr.heap.size A2 (disk.keptOf x1 k f).data) := Lib.hid (fun W hb => ints_in.2 (IntsIn.keep (r2.below Off.lt hb) (alike_refl _ _) Off.lt))
      have hts : (f.data.take s).length = s := by rw [List.length_take, q3.out]; omega
      have HG1 : Hid (∀ W, Below wr.heap.size wr W → Calls Try.prog 30 #[.slice A1 m1 d1, .slice A2 m2 d2] W fun e w' => e = .returned (.bool true) ∧ ∃ m', w' = W.drewN m') := Lib.hid (fun W hb =>
        disk.begins_yes A1 A2 m1 d1 m2 d2 wr.heap.size _ _ _ (HQA.out _ hb) (HQB.out _ hb) q3.out r3.out q4 q5 t4)
      have HG2 : Hid (∀ W, Below wr.heap.size wr W → Calls Try.prog 30 #[.slice A2 m2 d2, .slice A1 s d1] W fun e w' => e = .returned (.bool true) ∧ ∃ m', w' = W.drewN m') := Lib.hid (fun W hb =>
        disk.begins_yes A2 A1 m2 d2 s d1 wr.heap.size _ _ _ (HQB.out _ hb) (disk.bys_pre (HQA.out _ hb) (List.take_prefix s _)) r3.out hts r4 r5 t5)
      have HBR := Lib.hid hbr
      have z1 : b1 < wr.heap.size := hb1'
      have z2 : b2 < wr.heap.size := hb2'
      have z3 : w.heap.size < wr.heap.size := by omega
      have z4 : w4.heap.size < wr.heap.size := by omega
      unfold maxLen at q5
      clear t1 t2 t3 t4 t5 t6 u1 u2 u3 u4 hsn hts q1 q2 r1 r2 hgs hs hb1 hb2 R7 q6 r6
      go_wp2
      have hsd : (s : Int) ≤ (d1 : Int) := by omega
      have hsd2 : s ≤ d1 := by omega
      go_cut [10, 11] from 74 to 83 (fun v u wx => ∃ g10 g11 : Nat, v = .pointer (some ⟨g10, 0, none⟩) ∧ u = .pointer (some ⟨g11, 0, none⟩) ∧ wx.heap[g10]? = some (.cells #[.string f.name, .slice A1 m1 d1, .int .i64 (s : Int)] 51 (0, 0)) ∧ wx.heap[g11]? = some (.cells #[.string f.name, .slice A2 m2 d2, .int .i64 (m2 : Int)] 51 (0, 0)) ∧ Below wr.heap.size wr wx)
      case first =>
        go_region
        all_goals
          go_wp2_with fail
          go_meet
          first
            | exact ⟨_, _, rfl, rfl, (disk.two_blocks wr _ _ _ _).1, (disk.two_blocks wr _ _ _ _).2, (((Below.refl _ _).alloc (Nat.le_refl _) _).alloc (by simp) _).drew⟩
            | exact ⟨_, _, rfl, rfl, (disk.two_blocks wr _ _ _ _).2, (disk.two_blocks wr _ _ _ _).1, (((Below.refl _ _).alloc (Nat.le_refl _) _).alloc (by simp) _).drew⟩
      case rest =>
        obtain ⟨g10, g11, rfl, rfl, e10, e11, hbc⟩ := hcut
        have ka0 : wc.drew.cell? ⟨g10, 0, none⟩ = some (.string f.name) := (block_cell e10 0 _ rfl).1
        have ka1 : wc.drew.cell? ⟨g10, 1, none⟩ = some (.slice A1 m1 d1) := (block_cell e10 1 _ rfl).1
        have ka2 : wc.drew.cell? ⟨g10, 2, none⟩ = some (.int .i64 (s : Int)) := (block_cell e10 2 _ rfl).1
        have ka3 : wc.drew.cell? ⟨g11, 0, none⟩ = some (.string f.name) := (block_cell e11 0 _ rfl).1
        have ka4 : wc.drew.cell? ⟨g11, 1, none⟩ = some (.slice A2 m2 d2) := (block_cell e11 1 _ rfl).1
        have ka5 : wc.drew.cell? ⟨g11, 2, none⟩ = some (.int .i64 (m2 : Int)) := (block_cell e11 2 _ rfl).1
        have HBC : Hid (Below wr.heap.size wr wc.drew) := Lib.hid hbc.drew
        clear e10 e11 hbc ax0 af0 bx0 bf0 cell0 cell1 cell2 dell0 dell1 dell2
        have HK1 : Hid (∀ W, Below wr.heap.size wr W → (W.cell? ⟨g10, 0, none⟩ = some (.string f.name) ∧ W.cell? ⟨g10, 1, none⟩ = some (.slice A1 m1 d1) ∧ W.cell? ⟨g10, 2, none⟩ = some (.int .i64 (s : Int)) ∧ W.cell? ⟨g11, 0, none⟩ = some (.string f.name) ∧ W.cell? ⟨g11, 1, none⟩ = some (.slice A2 m2 d2) ∧ W.cell? ⟨g11, 2, none⟩ = some (.int .i64 (m2 : Int))) → Calls Try.prog 30 #[.slice A1 m1 d1, .slice A2 m2 d2] W fun e w' => e = .returned (.bool true) ∧ Below wr.heap.size wr w' ∧ w'.cell? ⟨g10, 0, none⟩ = some (.string f.name) ∧ w'.cell? ⟨g10, 1, none⟩ = some (.slice A1 m1 d1) ∧ w'.cell? ⟨g10, 2, none⟩ = some (.int .i64 (s : Int)) ∧ w'.cell? ⟨g11, 0, none⟩ = some (.string f.name) ∧ w'.cell? ⟨g11, 1, none⟩ = some (.slice A2 m2 d2) ∧ w'.cell? ⟨g11, 2, none⟩ = some (.int .i64 (m2 : Int))) := Lib.hid (fun W hb k0 => (HG1.out W hb).mono fun e w' ⟨h1, m', h2⟩ => by subst h2; exact ⟨h1, below_drewN hb m', k0⟩)
        have HK2 : Hid (∀ W, Below wr.heap.size wr W → (W.cell? ⟨g10, 0, none⟩ = some (.string f.name) ∧ W.cell? ⟨g10, 1, none⟩ = some (.slice A1 m1 d1) ∧ W.cell? ⟨g10, 2, none⟩ = some (.int .i64 (s : Int)) ∧ W.cell? ⟨g11, 0, none⟩ = some (.string f.name) ∧ W.cell? ⟨g11, 1, none⟩ = some (.slice A2 m2 d2) ∧ W.cell? ⟨g11, 2, none⟩ = some (.int .i64 (m2 : Int))) → Calls Try.prog 30 #[.slice A2 m2 d2, .slice A1 s d1] W fun e w' => e = .returned (.bool true) ∧ Below wr.heap.size wr w' ∧ w'.cell? ⟨g10, 0, none⟩ = some (.string f.name) ∧ w'.cell? ⟨g10, 1, none⟩ = some (.slice A1 m1 d1) ∧ w'.cell? ⟨g10, 2, none⟩ = some (.int .i64 (s : Int)) ∧ w'.cell? ⟨g11, 0, none⟩ = some (.string f.name) ∧ w'.cell? ⟨g11, 1, none⟩ = some (.slice A2 m2 d2) ∧ w'.cell? ⟨g11, 2, none⟩ = some (.int .i64 (m2 : Int))) := Lib.hid (fun W hb k0 => (HG2.out W hb).mono fun e w' ⟨h1, m', h2⟩ => by subst h2; exact ⟨h1, below_drewN hb m', k0⟩)
        go_wp2_with fail
        go_region_held3 (fun w' => w'.cell? ⟨g10, 0, none⟩ = some (.string f.name) ∧ w'.cell? ⟨g10, 1, none⟩ = some (.slice A1 m1 d1) ∧ w'.cell? ⟨g10, 2, none⟩ = some (.int .i64 (s : Int)) ∧ w'.cell? ⟨g11, 0, none⟩ = some (.string f.name) ∧ w'.cell? ⟨g11, 1, none⟩ = some (.slice A2 m2 d2) ∧ w'.cell? ⟨g11, 2, none⟩ = some (.int .i64 (m2 : Int)))
          (first | exact ⟨ka0, ka1, ka2, ka3, ka4, ka5⟩ | exact ⟨kb0, kb1, kb2, kb3, kb4, kb5⟩ | exact ⟨kc0, kc1, kc2, kc3, kc4, kc5⟩)
          (first
          | (go_at_call 30; with_reducible (show Calls _ _ #[Value.slice A1 m1 d1, Value.slice A2 m2 d2] _ _); refine Calls.mono (HK1.out _ HBC.out ⟨ka0, ka1, ka2, ka3, ka4, ka5⟩) ?_; rintro e wq ⟨rfl, hbq, kb0, kb1, kb2, kb3, kb4, kb5⟩)
          | (go_at_call 30; with_reducible (show Calls _ _ #[Value.slice A2 m2 d2, Value.slice A1 s d1] _ _); refine Calls.mono (HK2.out _ hbq ⟨kb0, kb1, kb2, kb3, kb4, kb5⟩) ?_; rintro e wz ⟨rfl, hbz, kc0, kc1, kc2, kc3, kc4, kc5⟩))
        all_goals
          go_wp2
          go_roundw
          case rel => exact ⟨k + 1, by omega, by go_num, HBR.out.trans (hbz.mono (by have := HBR.out.size; omega))⟩
          case measure => first | (simp [intOf]; done) | (simp [intOf]; omega)
    · obtain rfl : n = k := by omega
      obtain ⟨bx1, bf1⟩ := block_cell E7r.out 1 _ rfl
      obtain ⟨bx2, bf2⟩ := block_cell E7r.out 2 _ rfl
      obtain ⟨bx3, bf3⟩ := block_cell E7r.out 3 _ rfl
      have z4 : w4.heap.size < wr.heap.size := by omega
      have HBK := Lib.hid (disk.dback A4 n c4 room (-1) false p2 n2 c2 (-1) x2 (disk.backF x1 fs) _ (Off [w4.heap.size, w.heap.size] wr) wr Off.lt R7 HN4.out hm4 hc4 HR.out (by unfold inI; omega) HSH4.out (HK2.out wr [w4.heap.size, w.heap.size] hq (by intro g hg; simp at hg; have := hq4.size; rcases hg with rfl | rfl <;> omega)) HKN2.out HKC2.out HKM2.out hs2 (by unfold inI; omega) HB2.out)
      have HR7 := Lib.hid R7
      have HQ := Lib.hid hq
      clear R7
      go_wp2_with (first
        | ((with_reducible refine HBK.out.mono ?_); rintro e w6 ⟨A6, n6, c6, rfl, hr6, hl6, hm6, hc6, hg6⟩; obtain rfl : n = n6 := HN4.out.symm.trans hl6.out; have hq6 := HQ.out.trans (hg6.mono HQ.out.size); have E7_6 := Lib.hid ((hg6.block w4.heap.size z4).trans E7r.out); have hz6 : w4.heap.size < w6.heap.size := (by have := hg6.size; omega); obtain ⟨cx0, cf0⟩ := block_cell E7_6.out 0 _ rfl; obtain ⟨cx1, cf1⟩ := block_cell E7_6.out 1 _ rfl; obtain ⟨cx2, cf2⟩ := block_cell E7_6.out 2 _ rfl; obtain ⟨cx3, cf3⟩ := block_cell E7_6.out 3 _ rfl; have HS6 : Hid (∀ o, Calls Try.prog 31 #[.agg #[.slice A6 n c6, .int .i64 room, .int .i64 (-1), .bool false], .agg #[.slice A4 n c4, .int .i64 room, .int .i64 (-1), .bool false]] (w6.alloc o) fun e w' => e = .returned (.bool true) ∧ Below (w6.alloc o).heap.size (w6.alloc o) w') := Lib.hid (fun o => disk.rsame_yes A6 A4 n c6 c4 w6.heap.size room (-1) false (disk.backF x1 fs) (w6.alloc o) (by simp) ((FilesIn.below hr6 (fun b hb => by rcases hb with hb | hb; exact Nat.lt_of_lt_of_le hb.1 hg6.size; exact hb.2) ((Below.refl _ _).alloc (Nat.le_refl _) o)).more (fun b hb => by rcases hb with hb | hb; exact Nat.lt_of_lt_of_le hb.1 hg6.size; exact hb.2)) ((FilesIn.below (HR7.out.grow hg6) Off.lt ((Below.refl _ _).alloc (Nat.le_refl _) o)).more (fun b hb => hb.1)) HN4.out HC.out))
        | ((with_reducible refine (HS6.out _).mono ?_); rintro e w7 ⟨rfl, hg7⟩; have hq7 := (hq6.alloc hq6.size _).trans (hg7.mono (by have := hq6.size; simp <;> omega))))
      go_ret
      exact ⟨rfl, hq7⟩

set_option maxRecDepth 100000 in
theorem lifted (os : Os) (started : os.Started) (H : Type) (enc : TypeId × Value → H) :
    ReturnsInHanded {} Try.checked os 4 .any (Rows.diskBackSpec.pre6 enc Try.prog Try.f4 Rows.diskBackRow.domain false) (Rows.diskBackSpec.post enc Try.prog Try.f4 false true false false) := by
  refine returnsInHanded_of_change (C := Try.checked) own started (by kernel_rfl) Try.func4
    (ChangeSpec.witness6 (enc := enc) (C := Try.checked) false ⟨#[], #[.agg #[.slice none 0 0, .int .i64 0, .int .i64 0, .bool false], .slice none 0 0, .slice none 0 0], []⟩ 8 (by kernel_rfl) (by kernel_rfl) (by kernel_rfl) (by kernel_rfl)) ?_
  intro W base args ds gs before hval0 hW hcnd _
  have hval : ∀ (j : Nat) t v, Try.f4.params[j]? = some t → args[j]? = some v → Value.okWide Try.prog W .any base t v := hval0
  have hW' := hW
  obtain ⟨p, q, hA0, hV, rfl, hfz, hnd⟩ := hW
  have hA : DataW.TrodAll enc Try.prog W 0 (fun _ => true) true Try.f4.params.toList args.toList ds p := hA0
  rw [Try.params4] at hA hval
  obtain ⟨v0, vs0, d0, ds0, p0_, q0, hargs, rfl, rfl, h0, r0⟩ := trodAll_cons hA
  obtain ⟨v1, vs1, d1, ds1, p1_, q1, rfl, rfl, rfl, h1, r1⟩ := trodAll_cons r0
  obtain ⟨v2, vs2, d2, ds2, p2_, q2, rfl, rfl, rfl, h2, r2⟩ := trodAll_cons r1
  obtain ⟨rfl, rfl, rfl⟩ := trodAll_nil r2
  obtain rfl : args = #[v0, v1, v2] := by cases args; simp_all
  obtain ⟨rfl, rfl⟩ := trodVars_none hV
  obtain ⟨cs0, rfl, hsz0⟩ := okWide_struct Try.underlying24 (hval 0 24 v0 rfl rfl)
  have k0 := h0
  have lt0 : ∀ x ∈ p0_, x.block < W.heap.size := by obtain ⟨m, hm⟩ := k0; exact DataW.trod_lt m _ _ _ hm
  obtain ⟨x0, w0⟩ := of_arg of_disk k0
  obtain ⟨p1, n1, c1, rfl⟩ := okWide_slice Try.underlying26 (hval 1 26 v1 rfl rfl)
  have k1 := h1
  have lt1 : ∀ x ∈ p1_, x.block < W.heap.size := by obtain ⟨m, hm⟩ := k1; exact DataW.trod_lt m _ _ _ hm
  obtain ⟨x1, w1⟩ := of_arg (of_ints Try.underlying26 Try.underlying3 (by kernel_rfl)) k1
  obtain ⟨p2, n2, c2, rfl⟩ := okWide_slice Try.underlying26 (hval 2 26 v2 rfl rfl)
  have k2 := h2
  have lt2 : ∀ x ∈ p2_, x.block < W.heap.size := by obtain ⟨m, hm⟩ := k2; exact DataW.trod_lt m _ _ _ hm
  obtain ⟨x2, w2⟩ := of_arg (of_ints Try.underlying26 Try.underlying3 (by kernel_rfl)) k2
  clear hA0 hval0
  refine (walk cs0 x0 p1 n1 c1 x1 p2 n2 c2 x2 W w0 w1 w2).mono fun e W' ⟨he, bel⟩ => ?_
  subst he
  exact ⟨_, rfl, _, _, _, [], _, [], hW', trodAll_mk1 (shut_bool Try.underlying4 _), (trodAll_cons_mk (Below.trod laidOut (by kernel_rfl) (of_decide_eq_true (by kernel_rfl)) k0 bel lt0) (trodAll_cons_mk (Below.trod laidOut (by kernel_rfl) (of_decide_eq_true (by kernel_rfl)) k1 bel lt1) (trodAll_cons_mk (Below.trod laidOut (by kernel_rfl) (of_decide_eq_true (by kernel_rfl)) k2 bel lt2) trodAll_mk0))), rfl, bel.frame _, fun h => by cases h⟩

theorem over : Rows.diskBackRow.holds Try.pinned (OpenSpec.ofChange Rows.diskBackSpec) :=
  OpenClaim.holds_of_wide 4 Try.f4 rfl rfl rfl rfl rfl rfl rfl ⟨rfl, rfl, rfl, rfl, rfl⟩ rfl rfl rfl rfl rfl (by kernel_rfl) Try.func4 (by kernel_rfl)
    (of_decide_eq_true (by kernel_rfl)) (by unfold Func.isWrapper; first | (rw [if_pos (by decide +kernel)]; kernel_rfl) | (rw [if_neg (by decide +kernel)]; exact ⟨rfl, rfl⟩))
    (fun os started H enc _ => lifted os started H enc)

theorem proved : Rows.DiskBackSaid := over
#print axioms proved
end Go.Proofs.Ytbbmbfjlipgglaa.diskBack
