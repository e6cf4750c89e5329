/-
  PROVED: the law DiskFuse answers true at every input, and leaves what it was given as it was.
  CONDITIONS: none.
-/
import Derived.Test.YtaognhkjojkbbaaRows
import Derived.WalkKit
import Derived.ProofKit
import Derived.OpenShut
import Derived.ShutString
import Derived.ChangeOld
import Derived.Below
import Derived.Test.YtaognhkjojkbbaaDiskFuseM
import Derived.Test.YtaognhkjojkbbaaDiskAwake
import Derived.Deep.CutRange
import Derived.Deep.DeepCutAuto
import Derived.Deep.DrawnRows
import Derived.Deep.RegionLaw
import Derived.Deep.RegionHeld
import Derived.RegionTactic
namespace Go.Proofs.Ytaognhkjojkbbaa.diskFuse
open Go.ChangeShapes Go.WideShapes Go.ChangeAt Go.RowKit
open Go.ChangeMaps (open_string shut_string)
set_option linter.unusedVariables false

theorem own : ownKnob Try.prog.godebug = none := by kernel_rfl
theorem laidOut : laidOutB Try.prog = true := by kernel_rfl

theorem bys_taken {w : World} {S : Nat → Prop} {A : Option Addr} {bs : List Nat} (h : BysIn w S A bs) (m : Nat) : BysIn w S A (bs.take m) := disk.bys_take' h m
attribute [local go_sem] undef
attribute [local go_sem ↓] Go.wp_at_zero Go.wp_at_succ

set_option maxRecDepth 100000 in
set_option maxHeartbeats 8000000 in
theorem walk (p0 : Option Addr) (n0 c0 : Nat) (x0 : List (DoD)) (a1 : Int) (a2 : Int) (w : World) (w0 : (rdSlice rdDo 5) w (Lt w.heap.size) [.slice p0 n0 c0] x0) (w1 : (Lit.int .u8 a1).wf = true) (w2 : (Lit.int .u16 a2).wf = true) :
    Calls Try.prog 5 #[.slice p0 n0 c0, .int .u8 a1, .int .u16 a2] w fun e w' => e = .returned (.bool true) ∧ Below w.heap.size w w' := by
  obtain ⟨F, rfl, hF⟩ := nat_of_u8 w1
  obtain ⟨rm, rfl, hrm⟩ := nat_of_u16 w2
  obtain ⟨q0, m0, k0, e0, hk0, hkn0, hkc0, hkm0⟩ := w0
  obtain ⟨rfl, rfl, rfl⟩ : p0 = q0 ∧ n0 = m0 ∧ c0 = k0 := by simpa using e0
  have HN0 := Lib.hid hkn0
  have HD0 : Hid (∀ (W : World) (own : List Nat), Below w.heap.size w W → (∀ g ∈ own, w.heap.size ≤ g) → DosIn W (Off own W) p0 x0) := Lib.hid (fun W own hb ho => Elems.keep keeps_do hk0 (below_alikeS hb (fun _ h => h)) (Off.given hb.size ho))
  clear hkn0 hkc0 hkm0 e0 hk0
  by_cases hbig : 60 < n0
  · go_enter Try.func5, Try.ntmps5
    go_wp2_with ((with_reducible refine (disk.awake_any _).mono ?_); rintro e w1 ⟨rfl, hg1⟩)
    go_ret
    exact ⟨rfl, hg1⟩
  have hs0 : n0 ≤ 60 := by omega
  clear hbig
  obtain ⟨R, HR⟩ : ∃ R, Hid (rm % 2000 = R) := ⟨_, Lib.hid rfl⟩
  have hR : R < 2000 := by rw [← HR.out]; exact Nat.mod_lt _ (by omega)
  have hRe : (rm : Int) % 2000 = (R : Int) := by rw [← HR.out]; simp
  have HNEW : Hid (disk.newD (R : Int) = (⟨[], R, -1, false⟩, 0)) := Lib.hid (by unfold disk.newD; rw [if_pos (by omega)])
  have HPN : Hid (disk.Plain ⟨[], (R : Int), -1, false⟩) := Lib.hid ⟨by simp [disk.rightB, disk.goodFrom, disk.used]; omega, rfl, rfl⟩
  have HRN : Hid (disk.rightB ⟨[], (R : Int), (F : Int), false⟩ = true) := Lib.hid (by simp [disk.rightB, disk.goodFrom, disk.used]; omega)
  have hRI : inI (R : Int) := by unfold inI; omega
  have HRI := Lib.hid hRI
  clear hRI
  go_enter Try.func5, Try.ntmps5
  go_wp2_with fail
  refine Calls.mono (disk.awake_any w) ?_
  rintro e w1 ⟨rfl, hg1⟩
  have HQ1 := Lib.hid hg1
  clear hg1
  go_wp2_with fail
  refine Calls.mono (disk.dnew R _ (Off [] w1) w1 HRI.out HNEW.out) ?_
  rintro e w2 ⟨A2, n2, c2, rfl, hr2, hl2, hm2, hc2, hg2⟩
  obtain rfl : 0 = n2 := hl2.out
  have HQ2 : Hid (Below w.heap.size w w2) := Lib.hid (HQ1.out.trans (hg2.mono HQ1.out.size))
  have hz2 : w.heap.size ≤ w2.heap.size := HQ2.out.size
  clear hr2 hl2 hg2
  go_wp2_with fail
  refine Calls.mono (disk.dnew R _ (fun _ => False) _ HRI.out HNEW.out) ?_
  rintro e w3 ⟨A3, n3, c3, rfl, hr3, hl3, hm3, hc3, hg3⟩
  obtain rfl : 0 = n3 := hl3.out
  have HG7 : Hid (w3.heap[w2.heap.size]? = some (.cells #[.slice A2 0 c2, .int .i64 (R : Int), .int .i64 (-1), .bool false] 24 (0, 0))) := Lib.hid ((hg3.block _ (by simp)).trans (heap_alloc_new w2 _))
  have HQ3 : Hid (Below w.heap.size w w3) := Lib.hid ((HQ2.out.alloc hz2 _).trans (hg3.mono (by simp; omega)))
  have hz3 : w2.heap.size < w3.heap.size := cell_block (block_cell HG7.out 0 _ rfl).1
  clear hr3 hl3 hg3
  go_wp2_with fail
  go_loopw [11, 12] (fun s11 s12 wr => ∃ (k left : Nat) (Ff Fb : List FileD) (zb : Int) (db : Bool) (Af : Option Addr) (nf cf : Nat) (Ab : Option Addr) (nb cb : Nat), k ≤ n0 ∧ s12 = .int .i64 k ∧ s11 = .int .i64 left ∧ left ≤ 255 ∧ Hid (disk.Has4 24 wr w2.heap.size [w3.heap.size, w2.heap.size] Af nf cf Ff R (-1) false) ∧ Hid (disk.Plain ⟨Ff, R, -1, false⟩) ∧
    Hid (disk.Has4 24 wr w3.heap.size [w3.heap.size, w2.heap.size] Ab nb cb Fb R zb db) ∧ Hid (disk.rightB ⟨Fb, R, zb, db⟩ = true) ∧ 0 ≤ zb ∧ zb ≤ 255 ∧ Hid (db = true ∨ (db = false ∧ Fb = Ff ∧ zb = (left : Int))) ∧ Hid (Below w.heap.size w wr)) (fun _ i _ => n0 - (intOf i).toNat)
  case atStart => exact ⟨0, F, [], [], F, false, A2, 0, c2, A3, 0, c3, Nat.zero_le _, rfl, rfl, by omega, Lib.hid ⟨(Below.heap_alloc _ _ _ hz3).trans HG7.out, Files.nil _ _ _, rfl, hm2, hc2⟩, HPN, Lib.hid ⟨heap_alloc_new w3 _, Files.nil _ _ _, rfl, hm3, hc3⟩, HRN, by omega, by omega, Lib.hid (.inr ⟨rfl, rfl, rfl⟩), Lib.hid (HQ3.out.alloc HQ3.out.size _)⟩
  case round =>
    obtain ⟨k, left, Ff, Fb, zb, db, Af, nf, cf, Ab, nb, cb, hk, rfl, rfl, hle, H7, HP7, H9, HR9, hzb0, hzb1, HREL, HQ⟩ := hrel
    obtain ⟨z0, z1, z2, z3, zl⟩ := H7.out.cells
    obtain ⟨y0, y1, y2, y3, yl⟩ := H9.out.cells
    by_cases hlt : k < n0
    · obtain ⟨b, off, x, Ax, nx, cx, rfl, hb, HX, cell0, cell1, cell2, cell3, cell4, h1, h2, h3, h4, h5, h6, h7, h8⟩ := (HD0.out wr [w3.heap.size, w2.heap.size] HQ.out (by simp; omega)).at_ (j := k) (by rw [HN0.out]; exact hlt)
      have hb1 := hb.1
      obtain ⟨m, hmn⟩ : ∃ m : Nat, (min (nx : Int) 100).toNat = m := ⟨_, rfl⟩
      have hm100 : m ≤ 100 := by omega
      have hmx : m ≤ nx := by omega
      have HTL : Hid ((x.data.take 100).length = m) := Lib.hid (by rw [List.length_take, h6.out]; omega)
      have HB5 : Hid (BysIn wr (Off [w3.heap.size, w2.heap.size] wr) Ax (x.data.take 100)) := Lib.hid (bys_taken h5 100)
      have HC8 := Lib.hid h8
      unfold maxLen at h8
      have H1 := Lib.hid h1; have H2 := Lib.hid h2; have H3 := Lib.hid h3; have H4 := Lib.hid h4
      clear hb h5
      obtain ⟨gs, h, fb, z2', d2, kk, hd1, hp1, hd2, hr2, hz20, hz21, hway⟩ := disk.fuse_all HP7.out HR9.out ⟨hzb0, hzb1⟩ HREL.out ⟨x.kind, x.file, x.to, x.n, x.data.take 100⟩
      have HD1 := Lib.hid hd1; have HP1 := Lib.hid hp1; have HD2 := Lib.hid hd2; have HR2 := Lib.hid hr2; have HWAY := Lib.hid hway
      clear hd1 hp1 hd2 hr2 hway
      have hsh7 := Lib.hid (disk.right_short HP7.out.1)
      have hsh9 := Lib.hid (disk.right_short HR9.out)
      have hzr := HQ.out.size
      have HXB : Hid (∀ o, BysIn (wr.alloc o) (Off [w3.heap.size, w2.heap.size] (wr.alloc o)) Ax (x.data.take 100)) := Lib.hid (fun o => HB5.out.grow ((Below.refl _ _).alloc (Nat.le_refl _) o))
      go_wp2_with fail
      refine Calls.mono (disk.do_any Af Ax nf cf m cx R (-1) false Ff ⟨x.kind, x.file, x.to, x.n, x.data.take 100⟩ _ (Off [w3.heap.size, w2.heap.size] _) _ Off.lt (H7.out.2.1.alloc _) H7.out.2.2.1 H7.out.2.2.2.1 H7.out.2.2.2.2 HRI.out (by unfold inI; omega) hsh7.out H1.out H2.out H3.out H4.out (HXB.out _) HTL.out (by omega) HC8.out (by omega) HD1.out) ?_
      rintro e4 w4 ⟨A4, n4, c4, rfl, hr4, hl4, hm4, hc4, hg4⟩
      have HB4 : Hid (Below wr.heap.size wr w4) := Lib.hid (((Below.refl _ _).alloc (Nat.le_refl _) _).trans (hg4.mono (by simp)))
      have HX4 : Hid (w4.heap[wr.heap.size]? = some (.cells #[.int .u8 (x.kind : Int), .int .u8 (x.file : Int), .int .u8 (x.to : Int), .int .u8 (x.n : Int), .slice Ax m cx] 58 (0, 0))) := Lib.hid ((hg4.block _ (by simp)).trans (heap_alloc_new wr _))
      have HF4 : Hid (FilesIn w4 (Off [w3.heap.size, w2.heap.size] w4) A4 gs) := Lib.hid (hr4.ret (by intro g hg; simp at hg; simp; omega) hg4.size)
      have HL4 : Hid (gs.length = n4 ∧ n4 ≤ c4 ∧ c4 ≤ maxLen) := Lib.hid ⟨hl4.out, hm4, hc4⟩
      clear hr4 hl4 hm4 hc4 hg4 z0 z1 z2 z3 zl y0 y1 y2 y3 yl cell0 cell1 cell2 cell3 cell4
      have H94 := Lib.hid (H9.out.later HB4.out)
      have H74 := Lib.hid (H7.out.later HB4.out)
      obtain ⟨y0, y1, y2, y3, yl⟩ := H94.out.cells
      obtain ⟨x0', x1', x2', x3', x4', xl⟩ := disk.cells5 HX4.out
      have HXB4 : Hid (∀ o, BysIn (w4.alloc o) (Off [w3.heap.size, w2.heap.size] (w4.alloc o)) Ax (x.data.take 100)) := Lib.hid (fun o => (HB5.out.grow HB4.out).grow ((Below.refl _ _).alloc (Nat.le_refl _) o))
      go_wp2_with fail
      refine Calls.mono (disk.do_any Ab Ax nb cb m cx R zb db Fb ⟨x.kind, x.file, x.to, x.n, x.data.take 100⟩ _ (Off [w3.heap.size, w2.heap.size] _) _ Off.lt (H94.out.2.1.alloc _) H9.out.2.2.1 H9.out.2.2.2.1 H9.out.2.2.2.2 HRI.out (by unfold inI; omega) hsh9.out H1.out H2.out H3.out H4.out (HXB4.out _) HTL.out (by omega) HC8.out (by omega) HD2.out) ?_
      rintro e5 w5 ⟨A5, n5, c5, rfl, hr5, hl5, hm5, hc5, hg5⟩
      have hB45 : Below w4.heap.size w4 w5 := ((Below.refl _ _).alloc (Nat.le_refl _) _).trans (hg5.mono (by simp))
      have HG14 : Hid (w5.heap[w4.heap.size]? = some (.cells #[.slice A4 n4 c4, .int .i64 (R : Int), .int .i64 (-1), .bool false] 24 (0, 0))) := Lib.hid ((hg5.block _ (by simp)).trans (heap_alloc_new w4 _))
      have HF5 : Hid (FilesIn w5 (Off [w3.heap.size, w2.heap.size] w5) A5 fb) := Lib.hid (hr5.ret (by intro g hg; simp at hg; simp; omega) hg5.size)
      have HL5 : Hid (fb.length = n5 ∧ n5 ≤ c5 ∧ c5 ≤ maxLen) := Lib.hid ⟨hl5.out, hm5, hc5⟩
      have HB45 := Lib.hid hB45
      clear hr5 hl5 hm5 hc5 hg5 hB45 y0 y1 y2 y3 yl x0' x1' x2' x3' x4' xl
      go_upto_region 18 with fail
      obtain ⟨w6, hw6⟩ : ∃ v, v = w5.alloc (.cells #[.slice A5 n5 c5, .int .i64 (R : Int), .int .i64 z2', .bool d2] 24) := ⟨_, rfl⟩
      rw [← hw6]
      have HB56 : Hid (Below w5.heap.size w5 w6) := Lib.hid (by rw [hw6]; exact (Below.refl _ _).alloc (Nat.le_refl _) _)
      have HF46 : Hid (FilesIn w6 (Off (w5.heap.size :: [w3.heap.size, w2.heap.size]) w6) A4 gs) := Lib.hid (by rw [hw6]; exact (HF4.out.grow HB45.out).mine _)
      have HG16 : Hid (disk.Has4 24 w6 w5.heap.size (w5.heap.size :: [w3.heap.size, w2.heap.size]) A5 n5 c5 fb R z2' d2) := Lib.hid (by rw [hw6]; exact ⟨heap_alloc_new w5 _, HF5.out.mine _, HL5.out⟩)
      clear hw6
      have HB46 : Hid (Below w4.heap.size w4 w6) := Lib.hid (HB45.out.trans (HB56.out.mono HB45.out.size))
      have HB6 : Hid (Below wr.heap.size wr w6) := Lib.hid (HB4.out.trans (HB46.out.mono HB4.out.size))
      have HQ6 : Hid (Below w.heap.size w w6) := Lib.hid (HQ.out.trans (HB6.out.mono hzr))
      have H96 := Lib.hid (H9.out.later HB6.out)
      have H76 := Lib.hid (H7.out.later HB6.out)
      have HG146 : Hid (disk.Has4 24 w6 w4.heap.size [w3.heap.size, w2.heap.size] A4 n4 c4 gs R (-1) false) := Lib.hid ⟨(HB56.out.block _ (cell_block (block_cell HG14.out 0 _ rfl).1)).trans HG14.out, HF4.out.grow HB46.out, HL4.out⟩
      have HX6 : Hid (w6.heap[wr.heap.size]? = some (.cells #[.int .u8 (x.kind : Int), .int .u8 (x.file : Int), .int .u8 (x.to : Int), .int .u8 (x.n : Int), .slice Ax m cx] 58 (0, 0))) := Lib.hid ((HB46.out.block _ (cell_block (block_cell HX4.out 0 _ rfl).1)).trans HX4.out)
      obtain ⟨y0, y1, y2, y3, yl⟩ := H96.out.cells
      obtain ⟨u0, u1, u2, u3, ul⟩ := HG16.out.cells
      rcases HWAY.out with ⟨rfl, rfl, rfl, rfl, rfl⟩ | ⟨rfl, rfl, rfl, hn, rfl, rfl, rfl, rfl, rfl⟩ | ⟨rfl, rfl, rfl, rfl, rfl, rfl, rfl, rfl, hkd⟩ | ⟨rfl, rfl, rfl, hpos, rfl, rfl, rfl, rfl, rfl⟩
      · obtain rfl : n5 = nb := by rw [← HL5.out.1, H9.out.2.2.1]
        go_wp2_with fail
        refine Calls.mono (disk.rsame_yes A5 Ab n5 c5 cb w6.heap.size R z2' true fb w6 (Nat.le_refl _) (HG16.out.2.1.more Off.lt) (H96.out.2.1.more Off.lt) HL5.out.1 (Nat.le_trans HL5.out.2.1 HL5.out.2.2)) ?_
        rintro e7 w7 ⟨rfl, hb7⟩
        have HB7 : Hid (Below wr.heap.size wr w7) := Lib.hid (HB6.out.trans (hb7.mono HB6.out.size))
        clear hb7
        go_wp2_with fail
        go_roundw
        case rel => exact ⟨k + 1, left, Ff, fb, z2', true, Af, nf, cf, Ab, _, cb, by omega, by go_num, rfl, hle, Lib.hid (H7.out.later HB7.out), HP7, Lib.hid (H9.out.later HB7.out), HR9, hzb0, hzb1, Lib.hid (.inl rfl), Lib.hid (HQ.out.trans (HB7.out.mono hzr))⟩
        case measure => first | (simp [intOf]; done) | (simp [intOf]; omega)
      · have he1 : (kk == 0) = false := by simpa using hn
        have he2 : (kk != 0) = true := by simpa using hn
        obtain rfl : n5 = nb := by rw [← HL5.out.1, H9.out.2.2.1]
        go_wp2_with fail
        refine Calls.mono (disk.rsame_yes A5 Ab n5 c5 cb w6.heap.size R _ false _ w6 (Nat.le_refl _) (HG16.out.2.1.more Off.lt) (H96.out.2.1.more Off.lt) HL5.out.1 (Nat.le_trans HL5.out.2.1 HL5.out.2.2)) ?_
        rintro e7 w7 ⟨rfl, hb7⟩
        have HB7 : Hid (Below wr.heap.size wr w7) := Lib.hid (HB6.out.trans (hb7.mono HB6.out.size))
        clear hb7
        go_wp2_with fail
        go_roundw
        case rel => exact ⟨k + 1, left, _, _, _, false, Af, nf, cf, Ab, _, cb, by omega, by go_num, rfl, hle, Lib.hid (H7.out.later HB7.out), HP7, Lib.hid (H9.out.later HB7.out), HR9, hzb0, hzb1, Lib.hid (.inr ⟨rfl, rfl, rfl⟩), Lib.hid (HQ.out.trans (HB7.out.mono hzr))⟩
        case measure => first | (simp [intOf]; done) | (simp [intOf]; omega)
      · obtain ⟨K6, hK6⟩ : ∃ K6, x.kind % 6 = K6 := ⟨_, rfl⟩
        have hK6e : (x.kind : Int) % 6 = (K6 : Int) := by omega
        have hK6t : Int.tmod (x.kind : Int) 6 = (K6 : Int) := by rw [Int.tmod_eq_emod_of_nonneg (by omega)]; exact hK6e
        have HKD : Hid (1 < K6 → fb = Fb) := Lib.hid (by rw [← hK6]; exact hkd)
        have HU16 : Hid (∀ W, Below w6.heap.size w6 W → Calls Try.prog 12 #[.agg #[.slice A5 n5 c5, .int .i64 (R : Int), .int .i64 0, .bool true]] W fun e w' => e = .returned (.int .i64 (disk.used fb : Nat)) ∧ Below W.heap.size W w') := Lib.hid (fun W hb => disk.dused A5 n5 c5 R 0 true fb _ _ W Off.lt (HG16.out.later hb).2.1 HL5.out.1 HL5.out.2.1 HL5.out.2.2 HRI.out (by unfold inI; omega) (disk.right_short HR2.out) rfl)
        have HU9 : Hid (∀ W, Below w6.heap.size w6 W → Calls Try.prog 12 #[.agg #[.slice Ab nb cb, .int .i64 (R : Int), .int .i64 0, .bool false]] W fun e w' => e = .returned (.int .i64 (disk.used Fb : Nat)) ∧ Below W.heap.size W w') := Lib.hid (fun W hb => disk.dused Ab nb cb R 0 false Fb _ _ W Off.lt (H96.out.later hb).2.1 H9.out.2.2.1 H9.out.2.2.2.1 H9.out.2.2.2.2 HRI.out (by unfold inI; omega) hsh9.out rfl)
        clear hkd hK6
        go_upto_region 22 with fail
        go_cut [113] (fun v wx => v = .bool false ∧ Below w6.heap.size w6 wx)
        case first =>
          by_cases h16 : 1 < K6
          · have hEQ : disk.used Fb = disk.used fb := by rw [HKD.out h16]
            have HU9' : Hid (∀ W, Below w6.heap.size w6 W → Calls Try.prog 12 #[.agg #[.slice Ab nb cb, .int .i64 (R : Int), .int .i64 0, .bool false]] W fun e w' => e = .returned (.int .i64 (disk.used fb : Nat)) ∧ Below W.heap.size W w') := Lib.hid (by have := HU9.out; rw [hEQ] at this; exact this)
            clear HU9 hEQ
            have HU9 := HU9'
            clear HU9'
            have h17 : decide ((1 : Int) < (K6 : Int)) = true := by simp; omega
            clear HKD
            -- HI BEGINS
            refine wp_region_held_drew (S := fun W => Below w6.heap.size w6 W) (by kernel_rfl) (Below.refl _ _).drew (fun _ => ?_)
            obtain ⟨W7, hW7⟩ : ∃ x, x = w6.drew := ⟨_, rfl⟩
            rw [← hW7]
            have HB7 : Hid (Below w6.heap.size w6 W7) := Lib.hid (by rw [hW7]; exact (Below.refl _ _).drew)
            clear hW7
            refine wpAnyH_take (i := 0) (v := .int .i64 9) rfl (by kernel_rfl) (by kernel_rfl) (by kernel_rfl) (fun _ _ _ h => h) (Or.inl ⟨by kernel_rfl, ?h0⟩) HB7.out ?_
            case h0 => (intro W9 _; go_simp)
            go_simp
            refine wpAnyH_take (i := 1) (v := .bool false) rfl (by kernel_rfl) (by kernel_rfl) (by kernel_rfl) (fun _ _ _ h => h) (Or.inl ⟨by kernel_rfl, ?h1⟩) HB7.out ?_
            case h1 => (intro W9 _; go_simp)
            go_simp
            refine wpAnyH_take (i := 2) (v := .bool false) rfl (by kernel_rfl) (by kernel_rfl) (by kernel_rfl) (fun _ _ _ h => h) (Or.inl ⟨by kernel_rfl, ?h2⟩) HB7.out ?_
            case h2 => (intro W9 _; go_simp)
            go_simp
            refine wpAnyH_take (i := 3) (v := .pointer (some ⟨w5.heap.size, 3, none⟩)) rfl (by kernel_rfl) (by kernel_rfl) (by kernel_rfl) (fun _ _ _ h => h) (Or.inl ⟨by kernel_rfl, ?h3⟩) HB7.out ?_
            case h3 => (intro W9 _; go_simp)
            go_simp
            refine wpAnyH_take (i := 4) (v := .bool true) rfl (by kernel_rfl) (by kernel_rfl) (by kernel_rfl) (fun _ _ _ h => h) (Or.inl ⟨by kernel_rfl, ?h4⟩) HB7.out ?_
            case h4 => (intro W9 hW9; obtain ⟨v0, v1, v2, v3, vl⟩ := (HG16.out.later (show Below w6.heap.size w6 W9 from hW9)).cells; go_simp)
            go_simp
            refine wpAnyH_take (i := 5) (v := .bool false) rfl (by kernel_rfl) (by kernel_rfl) (by kernel_rfl) (fun _ _ _ h => h) (Or.inl ⟨by kernel_rfl, ?h5⟩) HB7.out ?_
            case h5 => (intro W9 _; go_simp)
            go_simp
            refine wpAnyH_take (i := 6) (v := .bool false) rfl (by kernel_rfl) (by kernel_rfl) (by kernel_rfl) (fun _ _ _ h => h) (Or.inl ⟨by kernel_rfl, ?h6⟩) HB7.out ?_
            case h6 => (intro W9 _; go_simp)
            go_simp
            refine wpAnyH_take (i := 7) (v := .bool false) rfl (by kernel_rfl) (by kernel_rfl) (by kernel_rfl) (fun _ _ _ h => h) (Or.inl ⟨by kernel_rfl, ?h7⟩) HB7.out ?_
            case h7 => (intro W9 _; go_simp)
            go_simp
            refine wpAnyH_take (i := 8) (v := .pointer (some ⟨wr.heap.size, 0, none⟩)) rfl (by kernel_rfl) (by kernel_rfl) (by kernel_rfl) (fun _ _ _ h => h) (Or.inl ⟨by kernel_rfl, ?h8⟩) HB7.out ?_
            case h8 => (intro W9 _; go_simp)
            go_simp
            refine wpAnyH_take (i := 9) (v := .int .u8 (x.kind : Int)) rfl (by kernel_rfl) (by kernel_rfl) (by kernel_rfl) (fun _ _ _ h => h) (Or.inl ⟨by kernel_rfl, ?h9⟩) HB7.out ?_
            case h9 => (intro W9 hW9; obtain ⟨v0, v1, v2, v3, v4, vl⟩ := disk.cells5 (((show Below w6.heap.size w6 W9 from hW9).block _ (cell_block (block_cell HX6.out 0 _ rfl).1)).trans HX6.out); go_simp)
            go_simp
            refine wpAnyH_take (i := 10) (v := .int .u8 (K6 : Int)) rfl (by kernel_rfl) (by kernel_rfl) (by kernel_rfl) (fun _ _ _ h => h) (Or.inl ⟨by kernel_rfl, ?h10⟩) HB7.out ?_
            case h10 => (intro W9 _; go_simp)
            go_simp
            refine wpAnyH_take (i := 11) (v := .bool true) rfl (by kernel_rfl) (by kernel_rfl) (by kernel_rfl) (fun _ _ _ h => h) (Or.inl ⟨by kernel_rfl, ?h11⟩) HB7.out ?_
            case h11 => (intro W9 _; go_simp)
            go_simp
            refine wpAnyH_take (i := 12) (v := .bool true) rfl (by kernel_rfl) (by kernel_rfl) (by kernel_rfl) (fun _ _ _ h => h) (Or.inl ⟨by kernel_rfl, ?h12⟩) HB7.out ?_
            case h12 => (intro W9 _; go_simp)
            go_simp
            refine wpAnyH_take (i := 13) (v := .agg #[.slice A5 n5 c5, .int .i64 (R : Int), .int .i64 0, .bool true]) rfl (by kernel_rfl) (by kernel_rfl) (by kernel_rfl) (fun _ _ _ h => h) (Or.inl ⟨by kernel_rfl, ?h13⟩) HB7.out ?_
            case h13 => (intro W9 hW9; obtain ⟨v0, v1, v2, v3, vl⟩ := (HG16.out.later (show Below w6.heap.size w6 W9 from hW9)).cells; go_simp)
            go_simp
            refine wpAnyH_take (i := 15) (v := .agg #[.slice Ab nb cb, .int .i64 (R : Int), .int .i64 (0 : Int), .bool false]) rfl (by kernel_rfl) (by kernel_rfl) (by kernel_rfl) (fun _ _ _ h => h) (Or.inl ⟨by kernel_rfl, ?h15⟩) HB7.out ?_
            case h15 => (intro W9 hW9; obtain ⟨v0, v1, v2, v3, vl⟩ := (H96.out.later (show Below w6.heap.size w6 W9 from hW9)).cells; go_simp)
            go_simp
            refine wpAnyH_ready (rs := [14]) (by kernel_rfl) (by simp) ?_
            refine AllReadyH.cons rfl (fun K hK => ?_) AllReadyH.nil
            go_simp
            go_wp2_with (refine Calls.mono (HU16.out W7 HB7.out) ?_; rintro e8 W8 ⟨rfl, hb8⟩)
            have HB8 : Hid (Below w6.heap.size w6 W8) := Lib.hid (HB7.out.trans (hb8.mono HB7.out.size))
            clear hb8
            refine hK.out _ _ HB8.out (fun _ => ?_)
            clear hK K
            go_simp
            refine wpAnyH_ready (rs := [16]) (by kernel_rfl) (by simp) ?_
            refine AllReadyH.cons rfl (fun K hK => ?_) AllReadyH.nil
            go_simp
            go_wp2_with (refine Calls.mono (HU9.out W8 HB8.out) ?_; rintro e9 W9 ⟨rfl, hb9⟩)
            have HB9 : Hid (Below w6.heap.size w6 W9) := Lib.hid (HB8.out.trans (hb9.mono HB8.out.size))
            clear hb9
            refine hK.out _ _ HB9.out (fun _ => ?_)
            clear hK K
            go_simp
            refine wpAnyH_take (i := 17) (v := .bool false) rfl (by kernel_rfl) (by kernel_rfl) (by kernel_rfl) (fun _ _ _ h => h) (Or.inl ⟨by kernel_rfl, ?h17⟩) HB9.out ?_
            case h17 => (intro W10 _; go_simp)
            go_simp
            refine wpAnyH_take (i := 18) (v := .bool false) rfl (by kernel_rfl) (by kernel_rfl) (by kernel_rfl) (fun _ _ _ h => h) (Or.inl ⟨by kernel_rfl, ?h18⟩) HB9.out ?_
            case h18 => (intro W10 _; go_simp)
            go_simp
            refine wpAnyH_take (i := 19) (v := .bool false) rfl (by kernel_rfl) (by kernel_rfl) (by kernel_rfl) (fun _ _ _ h => h) (Or.inl ⟨by kernel_rfl, ?h19⟩) HB9.out ?_
            case h19 => (intro W10 _; go_simp)
            go_simp
            refine wpAnyH_done (by kernel_rfl) ?_ _
            go_wp2_with fail
            go_meet
            exact ⟨rfl, HB9.out⟩
            -- HI ENDS
          · have h17 : decide ((1 : Int) < (K6 : Int)) = false := by simp; omega
            clear HKD HU9 HU16
            -- LO BEGINS
            refine wp_region_held_drew (S := fun W => Below w6.heap.size w6 W) (by kernel_rfl) (Below.refl _ _).drew (fun _ => ?_)
            obtain ⟨W7, hW7⟩ : ∃ x, x = w6.drew := ⟨_, rfl⟩
            rw [← hW7]
            have HB7 : Hid (Below w6.heap.size w6 W7) := Lib.hid (by rw [hW7]; exact (Below.refl _ _).drew)
            clear hW7
            refine wpAnyH_take (i := 0) (v := .int .i64 9) rfl (by kernel_rfl) (by kernel_rfl) (by kernel_rfl) (fun _ _ _ h => h) (Or.inl ⟨by kernel_rfl, ?h0⟩) HB7.out ?_
            case h0 => (intro W9 _; go_simp)
            go_simp
            refine wpAnyH_take (i := 1) (v := .bool false) rfl (by kernel_rfl) (by kernel_rfl) (by kernel_rfl) (fun _ _ _ h => h) (Or.inl ⟨by kernel_rfl, ?h1⟩) HB7.out ?_
            case h1 => (intro W9 _; go_simp)
            go_simp
            refine wpAnyH_take (i := 2) (v := .bool false) rfl (by kernel_rfl) (by kernel_rfl) (by kernel_rfl) (fun _ _ _ h => h) (Or.inl ⟨by kernel_rfl, ?h2⟩) HB7.out ?_
            case h2 => (intro W9 _; go_simp)
            go_simp
            refine wpAnyH_take (i := 3) (v := .pointer (some ⟨w5.heap.size, 3, none⟩)) rfl (by kernel_rfl) (by kernel_rfl) (by kernel_rfl) (fun _ _ _ h => h) (Or.inl ⟨by kernel_rfl, ?h3⟩) HB7.out ?_
            case h3 => (intro W9 _; go_simp)
            go_simp
            refine wpAnyH_take (i := 4) (v := .bool true) rfl (by kernel_rfl) (by kernel_rfl) (by kernel_rfl) (fun _ _ _ h => h) (Or.inl ⟨by kernel_rfl, ?h4⟩) HB7.out ?_
            case h4 => (intro W9 hW9; obtain ⟨v0, v1, v2, v3, vl⟩ := (HG16.out.later (show Below w6.heap.size w6 W9 from hW9)).cells; go_simp)
            go_simp
            refine wpAnyH_take (i := 5) (v := .bool false) rfl (by kernel_rfl) (by kernel_rfl) (by kernel_rfl) (fun _ _ _ h => h) (Or.inl ⟨by kernel_rfl, ?h5⟩) HB7.out ?_
            case h5 => (intro W9 _; go_simp)
            go_simp
            refine wpAnyH_take (i := 6) (v := .bool false) rfl (by kernel_rfl) (by kernel_rfl) (by kernel_rfl) (fun _ _ _ h => h) (Or.inl ⟨by kernel_rfl, ?h6⟩) HB7.out ?_
            case h6 => (intro W9 _; go_simp)
            go_simp
            refine wpAnyH_take (i := 7) (v := .bool false) rfl (by kernel_rfl) (by kernel_rfl) (by kernel_rfl) (fun _ _ _ h => h) (Or.inl ⟨by kernel_rfl, ?h7⟩) HB7.out ?_
            case h7 => (intro W9 _; go_simp)
            go_simp
            refine wpAnyH_take (i := 8) (v := .pointer (some ⟨wr.heap.size, 0, none⟩)) rfl (by kernel_rfl) (by kernel_rfl) (by kernel_rfl) (fun _ _ _ h => h) (Or.inl ⟨by kernel_rfl, ?h8⟩) HB7.out ?_
            case h8 => (intro W9 _; go_simp)
            go_simp
            refine wpAnyH_take (i := 9) (v := .int .u8 (x.kind : Int)) rfl (by kernel_rfl) (by kernel_rfl) (by kernel_rfl) (fun _ _ _ h => h) (Or.inl ⟨by kernel_rfl, ?h9⟩) HB7.out ?_
            case h9 => (intro W9 hW9; obtain ⟨v0, v1, v2, v3, v4, vl⟩ := disk.cells5 (((show Below w6.heap.size w6 W9 from hW9).block _ (cell_block (block_cell HX6.out 0 _ rfl).1)).trans HX6.out); go_simp)
            go_simp
            refine wpAnyH_take (i := 10) (v := .int .u8 (K6 : Int)) rfl (by kernel_rfl) (by kernel_rfl) (by kernel_rfl) (fun _ _ _ h => h) (Or.inl ⟨by kernel_rfl, ?h10⟩) HB7.out ?_
            case h10 => (intro W9 _; go_simp)
            go_simp
            refine wpAnyH_take (i := 11) (v := .bool false) rfl (by kernel_rfl) (by kernel_rfl) (by kernel_rfl) (fun _ _ _ h => h) (Or.inl ⟨by kernel_rfl, ?h11⟩) HB7.out ?_
            case h11 => (intro W9 _; go_simp)
            go_simp
            refine wpAnyH_take (i := 12) (v := .bool false) rfl (by kernel_rfl) (by kernel_rfl) (by kernel_rfl) (fun _ _ _ h => h) (Or.inl ⟨by kernel_rfl, ?h12⟩) HB7.out ?_
            case h12 => (intro W9 _; go_simp)
            go_simp
            refine wpAnyH_take (i := 13) (v := undef) rfl (by kernel_rfl) (by kernel_rfl) (by kernel_rfl) (fun _ _ _ h => h) (Or.inr ⟨by kernel_rfl, rfl⟩) HB7.out ?_
            go_simp
            refine wpAnyH_take (i := 14) (v := undef) rfl (by kernel_rfl) (by kernel_rfl) (by kernel_rfl) (fun _ _ _ h => h) (Or.inr ⟨by kernel_rfl, rfl⟩) HB7.out ?_
            go_simp
            refine wpAnyH_take (i := 15) (v := undef) rfl (by kernel_rfl) (by kernel_rfl) (by kernel_rfl) (fun _ _ _ h => h) (Or.inr ⟨by kernel_rfl, rfl⟩) HB7.out ?_
            go_simp
            refine wpAnyH_take (i := 16) (v := undef) rfl (by kernel_rfl) (by kernel_rfl) (by kernel_rfl) (fun _ _ _ h => h) (Or.inr ⟨by kernel_rfl, rfl⟩) HB7.out ?_
            go_simp
            refine wpAnyH_take (i := 17) (v := undef) rfl (by kernel_rfl) (by kernel_rfl) (by kernel_rfl) (fun _ _ _ h => h) (Or.inr ⟨by kernel_rfl, rfl⟩) HB7.out ?_
            go_simp
            refine wpAnyH_take (i := 18) (v := .bool false) rfl (by kernel_rfl) (by kernel_rfl) (by kernel_rfl) (fun _ _ _ h => h) (Or.inl ⟨by kernel_rfl, ?h18⟩) HB7.out ?_
            case h18 => (intro W9 _; go_simp)
            go_simp
            refine wpAnyH_take (i := 19) (v := .bool false) rfl (by kernel_rfl) (by kernel_rfl) (by kernel_rfl) (fun _ _ _ h => h) (Or.inl ⟨by kernel_rfl, ?h19⟩) HB7.out ?_
            case h19 => (intro W9 _; go_simp)
            go_simp
            refine wpAnyH_done (by kernel_rfl) ?_ _
            go_wp2_with fail
            go_meet
            exact ⟨rfl, HB7.out⟩
            -- LO ENDS
        case rest =>
          obtain ⟨rfl, hbc⟩ := hcut
          have HBC := Lib.hid hbc
          clear hbc hK6e hK6t u0 u1 u2 u3 ul y0 y1 y2 y3 yl HU9 HU16 HKD
          have H9c := Lib.hid (H96.out.later HBC.out)
          have H7c := Lib.hid (H76.out.later HBC.out)
          have H16c := Lib.hid (HG16.out.later HBC.out)
          have HQc : Hid (Below w.heap.size w wc) := Lib.hid (HQ6.out.trans (HBC.out.mono HQ6.out.size))
          obtain ⟨u0, u1, u2, u3, ul⟩ := H16c.out.cells
          obtain ⟨y0, y1, y2, y3, yl⟩ := H9c.out.cells
          obtain ⟨t0, t1, t2, t3⟩ := H9c.out.froz
          have hne : w2.heap.size ≠ w3.heap.size := Nat.ne_of_lt hz3
          go_wp2_with fail
          go_roundw
          case rel => exact ⟨k + 1, 0, Fb, fb, 0, true, Af, nf, cf, A5, n5, c5, by omega, by go_num, rfl, by omega, Lib.hid ⟨(heap_set4 _ _ _ _ hne).trans H7c.out.1, H7c.out.2.1.set4 (by simp) _ _ _ _, H7c.out.2.2⟩, HP7, Lib.hid ⟨heap_set4_self _ _ _ _ H9c.out.1, (disk.files_less H16c.out.2.1).set4 (by simp) _ _ _ _, HL5.out⟩, HR2, by omega, by omega, Lib.hid (.inl rfl), Lib.hid (below_set4 HQc.out (Nat.le_trans hz2 (Nat.le_of_lt hz3)) _ _ _ _)⟩
          case measure => first | (simp [intOf]; done) | (simp [intOf]; omega)
      · have hl0 : ((left : Int) == 0) = false := by simp; omega
        have hl1 : 1 ≤ left := by omega
        obtain ⟨v0, v1, v2, v3, vl⟩ := HG146.out.cells
        have hne1 : w4.heap.size ≠ w2.heap.size := by have := H74.out.cells.2.2.2.2; omega
        have hne2 : w5.heap.size ≠ w2.heap.size := by have := H74.out.cells.2.2.2.2; have := HB45.out.size; omega
        have hne3 : w3.heap.size ≠ w2.heap.size := Nat.ne_of_gt hz3
        have hne4 : w4.heap.size ≠ w3.heap.size := by have := H94.out.cells.2.2.2.2; omega
        have hne5 : w5.heap.size ≠ w3.heap.size := by have := H94.out.cells.2.2.2.2; have := HB45.out.size; omega
        have hne6 : w2.heap.size ≠ w3.heap.size := Nat.ne_of_lt hz3
        have hne7 : w4.heap.size ≠ w5.heap.size := by have := cell_block (block_cell HG14.out 0 _ rfl).1; exact Nat.ne_of_lt this
        go_upto_region 29 with fail
        go_cut [132] (fun _ wx => wx.heap[w2.heap.size]? = some (.cells #[.slice A4 n4 c4, .int .i64 (R : Int), .int .i64 (-1), .bool false] 24 (0, 0)) ∧ wx.heap[w3.heap.size]? = some (.cells #[.slice A5 n5 c5, .int .i64 (R : Int), .int .i64 ((left : Int) - 1), .bool false] 24 (0, 0)) ∧ wx.heap[w4.heap.size]? = some (.cells #[.slice A4 n4 c4, .int .i64 (R : Int), .int .i64 (-1), .bool false] 24 (0, 0)) ∧ wx.heap[w5.heap.size]? = some (.cells #[.slice A5 n5 c5, .int .i64 (R : Int), .int .i64 ((left : Int) - 1), .bool false] 24 (0, 0)) ∧
          FilesIn wx (Off (w5.heap.size :: [w3.heap.size, w2.heap.size]) wx) A4 fb ∧ FilesIn wx (Off (w5.heap.size :: [w3.heap.size, w2.heap.size]) wx) A5 fb ∧ Below w.heap.size w wx)
        case first =>
          -- R29 BEGINS
          refine wp_region_held_drew (S := fun W => W.heap[w4.heap.size]? = some (.cells #[.slice A4 n4 c4, .int .i64 (R : Int), .int .i64 (-1), .bool false] 24 (0, 0)) ∧ W.heap[w5.heap.size]? = some (.cells #[.slice A5 n5 c5, .int .i64 (R : Int), .int .i64 ((left : Int) - 1), .bool false] 24 (0, 0))) (by kernel_rfl) ⟨HG146.out.1, HG16.out.1⟩ (fun _ => ?_)
          obtain ⟨W7, hW7⟩ : ∃ x, x = w6.drew := ⟨_, rfl⟩
          rw [← hW7]
          have h77 : disk.Has4 24 W7 w2.heap.size [w3.heap.size, w2.heap.size] Af nf cf Fb R (-1) false := by rw [hW7]; exact H76.out
          have h97 : disk.Has4 24 W7 w3.heap.size [w3.heap.size, w2.heap.size] Ab nb cb Fb R left false := by rw [hW7]; exact H96.out
          have hs7 : W7.heap[w4.heap.size]? = some (.cells #[.slice A4 n4 c4, .int .i64 (R : Int), .int .i64 (-1), .bool false] 24 (0, 0)) ∧ W7.heap[w5.heap.size]? = some (.cells #[.slice A5 n5 c5, .int .i64 (R : Int), .int .i64 ((left : Int) - 1), .bool false] 24 (0, 0)) := by rw [hW7]; exact ⟨HG146.out.1, HG16.out.1⟩
          have hf47 : FilesIn W7 (Off (w5.heap.size :: [w3.heap.size, w2.heap.size]) W7) A4 fb := by rw [hW7]; exact HF46.out
          have hf57 : FilesIn W7 (Off (w5.heap.size :: [w3.heap.size, w2.heap.size]) W7) A5 fb := by rw [hW7]; exact HG16.out.2.1
          have hq7 : Below w.heap.size w W7 := by rw [hW7]; exact HQ6.out.drew
          have H77 := Lib.hid h77
          have H97 := Lib.hid h97
          have HS7 := Lib.hid hs7
          have HF47 := Lib.hid hf47
          have HF57 := Lib.hid hf57
          have HQ7 := Lib.hid hq7
          clear hW7 h77 h97 hs7 hf47 hf57 hq7
          refine wpAnyH_take (i := 0) (v := .agg #[.slice A4 n4 c4, .int .i64 (R : Int), .int .i64 (-1), .bool false]) rfl (by kernel_rfl) (by kernel_rfl) (by kernel_rfl) (fun _ _ _ h => h) (Or.inl ⟨by kernel_rfl, ?h0⟩) HS7.out ?_
          case h0 => (intro W9 hW9; obtain ⟨v0, v1, v2, v3, vl⟩ := disk.cells4 hW9.1; go_simp)
          go_simp
          refine wpAnyH_take (i := 1) (v := .agg #[.slice A5 n5 c5, .int .i64 (R : Int), .int .i64 ((left : Int) - 1), .bool false]) rfl (by kernel_rfl) (by kernel_rfl) (by kernel_rfl) (fun _ _ _ h => h) (Or.inl ⟨by kernel_rfl, ?h1⟩) HS7.out ?_
          case h1 => (intro W9 hW9; obtain ⟨v0, v1, v2, v3, vl⟩ := disk.cells4 hW9.2; go_simp)
          go_simp
          refine wpAnyH_ready (rs := [2]) (by kernel_rfl) (by simp) ?_
          refine AllReadyH.cons rfl (fun K hK => ?_) AllReadyH.nil
          obtain ⟨v0, v1, v2, v3, vl⟩ := H77.out.cells
          obtain ⟨t0, t1, t2, t3⟩ := H77.out.froz
          go_simp
          obtain ⟨W8, hW8⟩ : ∃ x, x = ((((W7.setCell ⟨w2.heap.size, 0, none⟩ (.slice A4 n4 c4)).setCell ⟨w2.heap.size, 1, none⟩ (.int .i64 (R : Int))).setCell ⟨w2.heap.size, 2, none⟩ (.int .i64 (-1))).setCell ⟨w2.heap.size, 3, none⟩ (.bool false)) := ⟨_, rfl⟩
          rw [← hW8]
          have HS8 : Hid (W8.heap[w4.heap.size]? = some (.cells #[.slice A4 n4 c4, .int .i64 (R : Int), .int .i64 (-1), .bool false] 24 (0, 0)) ∧ W8.heap[w5.heap.size]? = some (.cells #[.slice A5 n5 c5, .int .i64 (R : Int), .int .i64 ((left : Int) - 1), .bool false] 24 (0, 0))) := Lib.hid (by rw [hW8]; exact ⟨(heap_set4 _ _ _ _ hne1).trans HS7.out.1, (heap_set4 _ _ _ _ hne2).trans HS7.out.2⟩)
          have H78 : Hid (W8.heap[w2.heap.size]? = some (.cells #[.slice A4 n4 c4, .int .i64 (R : Int), .int .i64 (-1), .bool false] 24 (0, 0))) := Lib.hid (by rw [hW8]; exact heap_set4_self _ _ _ _ H77.out.1)
          have H98 : Hid (disk.Has4 24 W8 w3.heap.size [w3.heap.size, w2.heap.size] Ab nb cb Fb R left false) := Lib.hid (by rw [hW8]; exact ⟨(heap_set4 _ _ _ _ hne3).trans H97.out.1, H97.out.2.1.set4 (by simp) _ _ _ _, H97.out.2.2⟩)
          have HF48 : Hid (FilesIn W8 (Off (w5.heap.size :: [w3.heap.size, w2.heap.size]) W8) A4 fb) := Lib.hid (by rw [hW8]; exact HF47.out.set4 (by simp) _ _ _ _)
          have HF58 : Hid (FilesIn W8 (Off (w5.heap.size :: [w3.heap.size, w2.heap.size]) W8) A5 fb) := Lib.hid (by rw [hW8]; exact HF57.out.set4 (by simp) _ _ _ _)
          have HQ8 : Hid (Below w.heap.size w W8) := Lib.hid (by rw [hW8]; exact below_set4 HQ7.out hz2 _ _ _ _)
          refine hK.out _ _ HS8.out (fun _ => ?_)
          clear hK K hW8 v0 v1 v2 v3 vl t0 t1 t2 t3
          go_simp
          refine wpAnyH_ready (rs := [3]) (by kernel_rfl) (by simp) ?_
          refine AllReadyH.cons rfl (fun K hK => ?_) AllReadyH.nil
          obtain ⟨v0, v1, v2, v3, vl⟩ := H98.out.cells
          obtain ⟨t0, t1, t2, t3⟩ := H98.out.froz
          go_simp
          obtain ⟨W9, hW9⟩ : ∃ x, x = ((((W8.setCell ⟨w3.heap.size, 0, none⟩ (.slice A5 n5 c5)).setCell ⟨w3.heap.size, 1, none⟩ (.int .i64 (R : Int))).setCell ⟨w3.heap.size, 2, none⟩ (.int .i64 ((left : Int) - 1))).setCell ⟨w3.heap.size, 3, none⟩ (.bool false)) := ⟨_, rfl⟩
          rw [← hW9]
          have HS9 : Hid (W9.heap[w4.heap.size]? = some (.cells #[.slice A4 n4 c4, .int .i64 (R : Int), .int .i64 (-1), .bool false] 24 (0, 0)) ∧ W9.heap[w5.heap.size]? = some (.cells #[.slice A5 n5 c5, .int .i64 (R : Int), .int .i64 ((left : Int) - 1), .bool false] 24 (0, 0))) := Lib.hid (by rw [hW9]; exact ⟨(heap_set4 _ _ _ _ hne4).trans HS8.out.1, (heap_set4 _ _ _ _ hne5).trans HS8.out.2⟩)
          have H79 : Hid (W9.heap[w2.heap.size]? = some (.cells #[.slice A4 n4 c4, .int .i64 (R : Int), .int .i64 (-1), .bool false] 24 (0, 0))) := Lib.hid (by rw [hW9]; exact (heap_set4 _ _ _ _ hne6).trans H78.out)
          have H99 : Hid (W9.heap[w3.heap.size]? = some (.cells #[.slice A5 n5 c5, .int .i64 (R : Int), .int .i64 ((left : Int) - 1), .bool false] 24 (0, 0))) := Lib.hid (by rw [hW9]; exact heap_set4_self _ _ _ _ H98.out.1)
          have HF49 : Hid (FilesIn W9 (Off (w5.heap.size :: [w3.heap.size, w2.heap.size]) W9) A4 fb) := Lib.hid (by rw [hW9]; exact HF48.out.set4 (by simp) _ _ _ _)
          have HF59 : Hid (FilesIn W9 (Off (w5.heap.size :: [w3.heap.size, w2.heap.size]) W9) A5 fb) := Lib.hid (by rw [hW9]; exact HF58.out.set4 (by simp) _ _ _ _)
          have HQ9 : Hid (Below w.heap.size w W9) := Lib.hid (by rw [hW9]; exact below_set4 HQ8.out (Nat.le_trans hz2 (Nat.le_of_lt hz3)) _ _ _ _)
          refine hK.out _ _ HS9.out (fun _ => ?_)
          clear hK K hW9 v0 v1 v2 v3 vl t0 t1 t2 t3
          go_simp
          refine wpAnyH_done (by kernel_rfl) ?_ _
          go_wp2_with fail
          go_meet
          exact ⟨H79.out, H99.out, HS9.out.1, HS9.out.2, HF49.out, HF59.out, HQ9.out⟩
          -- R29 ENDS
        case rest =>
          obtain ⟨e7, e9, e14, e16, hf4, hf5, hqc⟩ := hcut
          obtain rfl : n5 = n4 := by rw [← HL5.out.1, ← HL4.out.1]
          have E7 := Lib.hid e7
          have E9 := Lib.hid e9
          have E14 := Lib.hid e14
          have E16 := Lib.hid e16
          have HF4c := Lib.hid hf4
          have HF5c := Lib.hid hf5
          have HQc := Lib.hid hqc
          clear e7 e9 e14 e16 hf4 hf5 hqc u0 u1 u2 u3 ul y0 y1 y2 y3 yl v0 v1 v2 v3 vl
          obtain ⟨u0, u1, u2, u3, ul⟩ := disk.cells4 E16.out
          obtain ⟨v0, v1, v2, v3, vl⟩ := disk.cells4 E14.out
          have t2 := (block_cell E16.out 2 (.int .i64 ((left : Int) - 1)) rfl).2
          have hg7c := (disk.cells4 E7.out).2.2.2.2
          have hg9c := (disk.cells4 E9.out).2.2.2.2
          have hsc : ∀ q v, (wc.setCell q v).heap.size = wc.heap.size := fun q v => by simp [World.setCell]
          have HSC := Lib.hid hsc
          clear hsc
          go_wp2_with fail
          refine Calls.mono (disk.rsame_yes A5 A4 n5 c5 c4 _ R (-1) false fb _ (Nat.le_refl _) ((disk.files_set1 HF5c.out (by simp) _).more Off.lt) ((disk.files_set1 HF4c.out (by simp) _).more Off.lt) HL5.out.1 (Nat.le_trans HL5.out.2.1 HL5.out.2.2)) ?_
          rintro e8 w8 ⟨rfl, hb8⟩
          have HB8 := Lib.hid hb8
          clear hb8 u0 u1 u2 u3 v0 v1 v2 v3 t2
          have E98 : Hid (w8.heap[w3.heap.size]? = some (.cells #[.slice A5 n5 c5, .int .i64 (R : Int), .int .i64 ((left : Int) - 1), .bool false] 24 (0, 0))) := Lib.hid (((HB8.out.block _ (by rw [HSC.out]; exact hg9c)).trans (Below.heap_setCell _ _ _ _ (by simpa using hne5.symm))).trans E9.out)
          have E78 : Hid (w8.heap[w2.heap.size]? = some (.cells #[.slice A4 n5 c4, .int .i64 (R : Int), .int .i64 (-1), .bool false] 24 (0, 0))) := Lib.hid (((HB8.out.block _ (by rw [HSC.out]; exact hg7c)).trans (Below.heap_setCell _ _ _ _ (by simpa using hne2.symm))).trans E7.out)
          have HF48 : Hid (FilesIn w8 (Off [w3.heap.size, w2.heap.size] w8) A4 fb) := Lib.hid (disk.files_less ((disk.files_set1 HF4c.out (by simp) _).grow HB8.out))
          have HF58 : Hid (FilesIn w8 (Off [w3.heap.size, w2.heap.size] w8) A5 fb) := Lib.hid (disk.files_less ((disk.files_set1 HF5c.out (by simp) _).grow HB8.out))
          have hw5s : w.heap.size ≤ w5.heap.size := by have := HB45.out.size; have := H74.out.cells.2.2.2.2; omega
          have HQ8 : Hid (Below w.heap.size w w8) := Lib.hid ((HQc.out.setCell (p := ⟨w5.heap.size, 2, none⟩) hw5s _).trans (HB8.out.mono (by rw [HSC.out]; exact HQc.out.size)))
          obtain ⟨y0, y1, y2, y3, yl⟩ := disk.cells4 E98.out
          go_wp2_with fail
          go_roundw
          case rel => exact ⟨k + 1, left - 1, fb, fb, (left : Int) - 1, false, A4, n5, c4, A5, n5, c5, by omega, by go_num, by rw [show ((left - 1 : Nat) : Int) = (left : Int) - 1 by omega], by omega, Lib.hid ⟨E78.out, HF48.out, HL5.out.1, HL4.out.2⟩, HP1, Lib.hid ⟨E98.out, HF58.out, HL5.out⟩, HR2, by omega, by omega, Lib.hid (.inr ⟨rfl, rfl, by omega⟩), HQ8⟩
          case measure => first | (simp [intOf]; done) | (simp [intOf]; omega)
    · go_wp2_with fail
      refine Calls.mono (disk.dright Ab nb cb R zb db Fb true (Off [w3.heap.size, w2.heap.size] wr) wr Off.lt H9.out.2.1 H9.out.2.2.1 H9.out.2.2.2.1 H9.out.2.2.2.2 HRI.out (by unfold inI; omega) (disk.right_short HR9.out) HR9.out) ?_
      rintro e4 w4 ⟨rfl, hb4⟩
      have HB4 : Hid (Below wr.heap.size wr w4) := Lib.hid hb4
      clear hb4 z0 z1 z2 z3 zl y0 y1 y2 y3 yl
      have H74 := Lib.hid (H7.out.later HB4.out)
      obtain ⟨z0, z1, z2, z3, zl⟩ := H74.out.cells
      go_wp2_with fail
      refine Calls.mono (disk.dright Af nf cf R (-1) false Ff true (Off [w3.heap.size, w2.heap.size] w4) w4 Off.lt H74.out.2.1 H7.out.2.2.1 H7.out.2.2.2.1 H7.out.2.2.2.2 HRI.out (by unfold inI; omega) (disk.right_short HP7.out.1) HP7.out.1) ?_
      rintro e5 w5 ⟨rfl, hb5⟩
      have HB5 : Hid (Below w.heap.size w w5) := Lib.hid ((HQ.out.trans (HB4.out.mono HQ.out.size)).trans (hb5.mono (by have := HQ.out.size; have := HB4.out.size; omega)))
      clear hb5
      go_wp2
      go_ret
      exact ⟨rfl, HB5.out⟩

set_option maxRecDepth 100000 in
theorem lifted (os : Os) (started : os.Started) (H : Type) (enc : TypeId × Value → H) :
    ReturnsInHanded {} Try.checked os 5 .any (Rows.diskFuseSpec.pre6 enc Try.prog Try.f5 Rows.diskFuseRow.domain false) (Rows.diskFuseSpec.post enc Try.prog Try.f5 false true false false) := by
  refine returnsInHanded_of_change (C := Try.checked) own started (by kernel_rfl) Try.func5
    (ChangeSpec.witness6 (enc := enc) (C := Try.checked) false ⟨#[], #[.slice none 0 0, .int .u8 0, .int .u16 0], []⟩ 8 (by kernel_rfl) (by kernel_rfl) (by kernel_rfl) (by kernel_rfl)) ?_
  intro W base args ds gs before hval0 hW hcnd _
  have hval : ∀ (j : Nat) t v, Try.f5.params[j]? = some t → args[j]? = some v → Value.okWide Try.prog W .any base t v := hval0
  have hW' := hW
  obtain ⟨p, q, hA0, hV, rfl, hfz, hnd⟩ := hW
  have hA : DataW.TrodAll enc Try.prog W 0 (fun _ => true) true Try.f5.params.toList args.toList ds p := hA0
  rw [Try.params5] at hA hval
  obtain ⟨v0, vs0, d0, ds0, p0_, q0, hargs, rfl, rfl, h0, r0⟩ := trodAll_cons hA
  obtain ⟨v1, vs1, d1, ds1, p1_, q1, rfl, rfl, rfl, h1, r1⟩ := trodAll_cons r0
  obtain ⟨v2, vs2, d2, ds2, p2_, q2, rfl, rfl, rfl, h2, r2⟩ := trodAll_cons r1
  obtain ⟨rfl, rfl, rfl⟩ := trodAll_nil r2
  obtain rfl : args = #[v0, v1, v2] := by cases args; simp_all
  obtain ⟨rfl, rfl⟩ := trodVars_none hV
  obtain ⟨p0, n0, c0, rfl⟩ := okWide_slice Try.underlying55 (hval 0 55 v0 rfl rfl)
  have k0 := h0
  have lt0 : ∀ x ∈ p0_, x.block < W.heap.size := by obtain ⟨m, hm⟩ := k0; exact DataW.trod_lt m _ _ _ hm
  obtain ⟨x0, w0⟩ := of_arg (of_slice (size := 5) of_do Try.underlying55 (by kernel_rfl) (by decide)) k0
  obtain ⟨a1, rfl, rfl, rfl, w1⟩ := open_int Try.underlying5 (hval 1 5 v1 rfl rfl) h1
  obtain ⟨a2, rfl, rfl, rfl, w2⟩ := open_int Try.underlying56 (hval 2 56 v2 rfl rfl) h2
  clear hA0 hval0
  refine (walk p0 n0 c0 x0 a1 a2 W w0 w1 w2).mono fun e W' ⟨he, bel⟩ => ?_
  subst he
  exact ⟨_, rfl, _, _, _, [], _, [], hW', trodAll_mk1 (shut_bool Try.underlying4 _), (trodAll_cons_mk (Below.trod laidOut (by kernel_rfl) (of_decide_eq_true (by kernel_rfl)) k0 bel lt0) (trodAll_cons_mk (shut_int Try.underlying5 w1) (trodAll_cons_mk (shut_int Try.underlying56 w2) trodAll_mk0))), rfl, bel.frame _, fun h => by cases h⟩

theorem over : Rows.diskFuseRow.holds Try.pinned (OpenSpec.ofChange Rows.diskFuseSpec) :=
  OpenClaim.holds_of_wide 5 Try.f5 rfl rfl rfl rfl rfl rfl rfl ⟨rfl, rfl, rfl, rfl, rfl⟩ rfl rfl rfl rfl rfl (by kernel_rfl) Try.func5 (by kernel_rfl)
    (of_decide_eq_true (by kernel_rfl)) (by unfold Func.isWrapper; first | (rw [if_pos (by decide +kernel)]; kernel_rfl) | (rw [if_neg (by decide +kernel)]; exact ⟨rfl, rfl⟩))
    (fun os started H enc _ => lifted os started H enc)

theorem proved : Rows.DiskFuseSaid := over
#print axioms proved
end Go.Proofs.Ytaognhkjojkbbaa.diskFuse
