/-
  PROVED: the law DiskLasts answers true at every input, and leaves what it was given as it was.
  CONDITIONS: none.
-/
import Derived.Test.YtbbmbfjlipgglaaRows
import Derived.WalkKit
import Derived.ProofKit
import Derived.OpenShut
import Derived.ShutString
import Derived.ChangeOld
import Derived.Below
import Derived.Test.YtbbmbfjlipgglaaDiskAwake
import Derived.Test.YtbbmbfjlipgglaaDiskBegins
import Derived.Test.YtbbmbfjlipgglaaGiven
import Derived.Test.YtbbmbfjlipgglaaDiskRun
import Derived.Deep.RegionWith
import Derived.Deep.CutRange
namespace Go.Proofs.Ytbbmbfjlipgglaa.diskLasts
open Go.ChangeShapes Go.WideShapes Go.ChangeAt Go.RowKit
open Go.ChangeMaps (open_string shut_string)
set_option linter.unusedVariables false

theorem own : ownKnob Try.prog.godebug = none := by kernel_rfl
theorem laidOut : laidOutB Try.prog = true := by kernel_rfl

theorem bys_taken {w : World} {S : Nat → Prop} {A : Option Addr} {bs : List Nat} (h : BysIn w S A bs) (m : Nat) : BysIn w S A (bs.take m) := by
  obtain ⟨h1, h2⟩ := h
  have e : toI (bs.take m) = (toI bs).take m := by unfold toI; rw [List.map_take]
  refine ⟨fun x hx => h1 x (by rw [e] at hx; exact List.mem_of_mem_take hx), fun hn => ?_⟩
  rw [e] at hn ⊢
  obtain ⟨b, off, e1, e2, e3⟩ := h2 (by rw [List.length_take] at hn; omega)
  refine ⟨b, off, e1, e2, fun j hj => ?_⟩
  rw [List.length_take] at hj
  rw [e3 j (by omega)]
  simp only [List.getD_eq_getElem?_getD]
  rw [List.getElem?_take, if_pos (by omega)]

set_option maxRecDepth 20000 in
set_option maxHeartbeats 12000000 in
theorem walk (p0 : Option Addr) (n0 c0 : Nat) (x0 : List (DoD)) (p1 : Option Addr) (n1 c1 : Nat) (x1 : List (DoD)) (a2 : Int) (p3 : Option Addr) (n3 c3 : Nat) (x3 : List Int) (w : World) (w0 : (rdSlice rdDo 5) w (Lt w.heap.size) [.slice p0 n0 c0] x0) (w1 : (rdSlice rdDo 5) w (Lt w.heap.size) [.slice p1 n1 c1] x1) (w2 : (Lit.int .u8 a2).wf = true) (w3 : (rdInts .i64) w (Lt w.heap.size) [.slice p3 n3 c3] x3) :
    Calls Try.prog 6 #[.slice p0 n0 c0, .slice p1 n1 c1, .int .u8 a2, .slice p3 n3 c3] w fun e w' => e = .returned (.bool true) ∧ Below w.heap.size w w' := by
  obtain ⟨z2, rfl, hz2'⟩ := nat_of_u8 w2
  obtain ⟨q0, m0, k0, e0, hk0, hkn0, hkc0, hkm0⟩ := w0
  obtain ⟨rfl, rfl, rfl⟩ : p0 = q0 ∧ n0 = m0 ∧ c0 = k0 := by simpa using e0
  obtain ⟨q1, m1, k1, e1, hk1, hkn1, hkc1, hkm1⟩ := w1
  obtain ⟨rfl, rfl, rfl⟩ : p1 = q1 ∧ n1 = m1 ∧ c1 = k1 := by simpa using e1
  obtain ⟨q3, m3, k3, e3, hk3, hkn3, hkc3, hkm3⟩ := w3
  obtain ⟨rfl, rfl, rfl⟩ : p3 = q3 ∧ n3 = m3 ∧ c3 = k3 := by simpa using e3
  have HN0 := Lib.hid hkn0; have HN1 := Lib.hid hkn1
  have HD0 : Hid (∀ (W : World) (own : List Nat), Below w.heap.size w W → (∀ g ∈ own, w.heap.size ≤ g) → DosIn W (Off own W) p0 x0) := Lib.hid (fun W own hb ho => Elems.keep keeps_do hk0 (below_alikeS hb (fun _ h => h)) (Off.given hb.size ho))
  have HD1 : Hid (∀ (W : World) (own : List Nat), Below w.heap.size w W → (∀ g ∈ own, w.heap.size ≤ g) → DosIn W (Off own W) p1 x1) := Lib.hid (fun W own hb ho => Elems.keep keeps_do hk1 (below_alikeS hb (fun _ h => h)) (Off.given hb.size ho))
  clear hkn0 hkn1 hkc0 hkc1 hkm0 hkm1 e0 e1 e3 hk0 hk1
  by_cases hbig : 60 < n0 ∨ 60 < n1 ∨ 9 < n3
  · rcases (show 60 < n0 ∨ (n0 ≤ 60 ∧ 60 < n1) ∨ (n0 ≤ 60 ∧ n1 ≤ 60 ∧ 9 < n3) by omega) with h | ⟨h, h'⟩ | ⟨h, h', h''⟩
    all_goals
      clear hbig
      go_enter Try.func6, Try.ntmps6
      go_wp2_with ((with_reducible refine (disk.awake_any _).mono ?_); rintro e w1 ⟨rfl, hg1⟩)
      go_ret
      exact ⟨rfl, hg1⟩
  have hs0 : n0 ≤ 60 := by omega
  have hs1 : n1 ≤ 60 := by omega
  have hs3 : n3 ≤ 9 := by omega
  clear hbig
  have HNEW : Hid (disk.newD 65536 = (⟨[], 65536, -1, false⟩, 0)) := Lib.hid (by kernel_rfl)
  go_enter Try.func6, Try.ntmps6
  go_wp2_with (first
    | ((with_reducible refine (disk.awake_any _).mono ?_); rintro e w1 ⟨rfl, hg1⟩)
    | ((with_reducible refine (disk.dnew 65536 _ (Off [] w1) w1 (by unfold inI; omega) HNEW.out).mono ?_); rintro e w2 ⟨A2, n2, c2, rfl, hr2, hl2, hm2, hc2, hg2⟩; have hq2 := hg1.trans (hg2.mono hg1.size); have R2 := (hr2.ret (by simp) hg2.size).mine (.cells #[.slice A2 n2 c2, .int .i64 65536, .int .i64 (-1), .bool false] 24); have K2 := Lib.hid (heap_alloc_new w2 (.cells #[.slice A2 n2 c2, .int .i64 65536, .int .i64 (-1), .bool false] 24))))
  have HQ3 : Hid (Below w.heap.size w (w2.alloc (.cells #[.slice A2 n2 c2, .int .i64 65536, .int .i64 (-1), .bool false] 24))) := Lib.hid (hq2.alloc hq2.size _)
  have hz2 := hq2.size
  go_loopw [11] (fun i wr => ∃ (k : Nat) (D : DiskD), k ≤ n0 ∧ i = .int .i64 k ∧ disk.Stands 24 wr w2.heap.size [w2.heap.size] D ∧ disk.Plain D ∧ Below w.heap.size w wr ∧ w2.heap.size < wr.heap.size) (fun i _ => n0 - (intOf i).toNat)
  case atStart => exact ⟨0, ⟨[], 65536, -1, false⟩, Nat.zero_le _, rfl, ⟨A2, n2, c2, K2.out, R2, hl2.out, hm2, hc2⟩, disk.plain_new, HQ3.out, by simp⟩
  case round =>
    obtain ⟨k, D, hk, rfl, ⟨A, n, c, e0, hf, hn, hnc, hcm⟩, hpl, hq, hz⟩ := hrel
    have E0 := Lib.hid e0
    have HN := Lib.hid hn; have HNC := Lib.hid hnc; have HCM := Lib.hid hcm
    obtain ⟨fs, room, fuse, down⟩ := D
    have HPL := Lib.hid hpl
    obtain ⟨y1, rfl, rfl⟩ : disk.rightB ⟨fs, room, fuse, down⟩ = true ∧ down = false ∧ fuse = -1 := hpl
    clear e0 hn hnc hcm y1
    obtain ⟨ax0, af0⟩ := block_cell E0.out 0 _ rfl
    obtain ⟨ax1, af1⟩ := block_cell E0.out 1 _ rfl
    obtain ⟨ax2, af2⟩ := block_cell E0.out 2 _ rfl
    obtain ⟨ax3, af3⟩ := block_cell E0.out 3 _ rfl
    simp only at ax0 ax1 ax2 ax3
    by_cases hlt : k < n0
    · obtain ⟨b, off, x, Ax, nx, cx, rfl, hb, HX, cell0, cell1, cell2, cell3, cell4, h1, h2, h3, h4, h5, h6, h7, h8⟩ := (HD0.out wr [w2.heap.size] hq (by simp; omega)).at_ (j := k) (by rw [HN0.out]; exact hlt)
      have hb1 := hb.1
      obtain ⟨r, HV⟩ : ∃ r, Hid (disk.doD ⟨fs, room, -1, false⟩ ⟨x.kind, x.file, x.to, x.n, x.data.take 100⟩ = r) := ⟨_, Lib.hid rfl⟩
      have HPR : Hid (disk.Plain r.1) := Lib.hid (by rw [← HV.out]; exact disk.plain_do HPL.out _)
      have HB5 : Hid (BysIn wr (Off [w2.heap.size] wr) Ax (x.data.take 100)) := Lib.hid (bys_taken h5 100)
      have hro := Lib.hid (disk.right_room HPL.out.1)
      have hsh := Lib.hid (disk.right_short HPL.out.1)
      have HC8 := Lib.hid h8
      unfold maxLen at h8
      have HF := Lib.hid hf
      have HQ := Lib.hid hq
      have H1 := Lib.hid h1; have H2 := Lib.hid h2; have H3 := Lib.hid h3; have H4 := Lib.hid h4
      clear hf hq hb h5
      rcases (show nx ≤ 100 ∨ 100 < nx by omega) with h9 | h9
      · have hmn : (min (nx : Int) 100).toNat = nx := by omega
        have HTL : Hid ((x.data.take 100).length = nx) := Lib.hid (by rw [List.length_take, h6.out]; omega)
        go_wp2_with ((with_reducible refine (disk.do_any A Ax n c _ cx room (-1) false fs ⟨x.kind, x.file, x.to, x.n, x.data.take 100⟩ r (Off [w2.heap.size] _) _ Off.lt (HF.out.alloc _) HN.out HNC.out HCM.out hro.out (by unfold inI; omega) hsh.out H1.out H2.out H3.out H4.out (HB5.out.grow ((Below.refl _ _).alloc (Nat.le_refl _) _)) HTL.out (by omega) HC8.out (by omega) HV.out).mono ?_); rintro e w3 ⟨A3, m3, k3, rfl, hr3, hl3, hm3, hc3, hg3⟩; have hz3 : w2.heap.size < w3.heap.size := (by have := hg3.size; simp at this; omega); have E3 := Lib.hid ((hg3.block w2.heap.size (by simp; omega)).trans ((Below.heap_alloc _ _ _ hz).trans E0.out)); obtain ⟨bx0, bf0⟩ := block_cell E3.out 0 _ rfl; obtain ⟨bx1, bf1⟩ := block_cell E3.out 1 _ rfl; obtain ⟨bx2, bf2⟩ := block_cell E3.out 2 _ rfl; obtain ⟨bx3, bf3⟩ := block_cell E3.out 3 _ rfl; have R3 := hr3.ret (by intro g hg; simp at hg; subst hg; simp; omega) hg3.size; have HQ3' := Lib.hid ((HQ.out.alloc HQ.out.size _).trans (hg3.mono (by have := HQ.out.size; simp; omega))))
        go_roundw
        case rel => exact ⟨k + 1, r.1, by omega, by go_num, ⟨A3, m3, k3, heap_set4_self _ _ _ _ E3.out, R3.set4 (by simp) _ _ _ _, hl3.out, hm3, hc3⟩, HPR.out, below_set4 HQ3'.out hz2 _ _ _ _, by rw [size_set4]; exact hz3⟩
        case measure => first | (simp [intOf]; done) | (simp [intOf]; omega)
      · have hmn : (min (nx : Int) 100).toNat = 100 := by omega
        have HTL : Hid ((x.data.take 100).length = 100) := Lib.hid (by rw [List.length_take, h6.out]; omega)
        go_wp2_with ((with_reducible refine (disk.do_any A Ax n c _ cx room (-1) false fs ⟨x.kind, x.file, x.to, x.n, x.data.take 100⟩ r (Off [w2.heap.size] _) _ Off.lt (HF.out.alloc _) HN.out HNC.out HCM.out hro.out (by unfold inI; omega) hsh.out H1.out H2.out H3.out H4.out (HB5.out.grow ((Below.refl _ _).alloc (Nat.le_refl _) _)) HTL.out (by omega) HC8.out (by omega) HV.out).mono ?_); rintro e w3 ⟨A3, m3, k3, rfl, hr3, hl3, hm3, hc3, hg3⟩; have hz3 : w2.heap.size < w3.heap.size := (by have := hg3.size; simp at this; omega); have E3 := Lib.hid ((hg3.block w2.heap.size (by simp; omega)).trans ((Below.heap_alloc _ _ _ hz).trans E0.out)); obtain ⟨bx0, bf0⟩ := block_cell E3.out 0 _ rfl; obtain ⟨bx1, bf1⟩ := block_cell E3.out 1 _ rfl; obtain ⟨bx2, bf2⟩ := block_cell E3.out 2 _ rfl; obtain ⟨bx3, bf3⟩ := block_cell E3.out 3 _ rfl; have R3 := hr3.ret (by intro g hg; simp at hg; subst hg; simp; omega) hg3.size; have HQ3' := Lib.hid ((HQ.out.alloc HQ.out.size _).trans (hg3.mono (by have := HQ.out.size; simp; omega))))
        go_roundw
        case rel => exact ⟨k + 1, r.1, by omega, by go_num, ⟨A3, m3, k3, heap_set4_self _ _ _ _ E3.out, R3.set4 (by simp) _ _ _ _, hl3.out, hm3, hc3⟩, HPR.out, below_set4 HQ3'.out hz2 _ _ _ _, by rw [size_set4]; exact hz3⟩
        case measure => first | (simp [intOf]; done) | (simp [intOf]; omega)
    · obtain ⟨r, HV⟩ : ∃ r, Hid (disk.syncD ⟨fs, room, -1, false⟩ (disk.nameOf z2) = r) := ⟨_, Lib.hid rfl⟩
      have HPR : Hid (disk.Plain r.1) := Lib.hid (by rw [← HV.out]; exact disk.plain_sync HPL.out _)
      have hro := Lib.hid (disk.right_room HPL.out.1)
      have hsh := Lib.hid (disk.right_short HPL.out.1)
      have HSY : Hid (∀ W, Below wr.heap.size wr W → Calls Try.prog 18 #[.agg #[.slice A n c, .int .i64 room, .int .i64 (-1), .bool false], .string (disk.nameOf z2)] W (disk.RetOp (Off [w2.heap.size] W) W r)) := Lib.hid (fun W hb =>
        disk.dsync A n c room (-1) false (disk.nameOf z2) fs r (Off [w2.heap.size] W) W Off.lt (hf.grow hb) HN.out HNC.out HCM.out hro.out (by unfold inI; omega) hsh.out (disk.nameOf_size _) HV.out)
      have HQ := Lib.hid hq
      have HNA : Hid (∀ W, Calls Try.prog 33 #[.int .u8 (z2 : Int)] W fun e w' => e = .returned (.string (disk.nameOf z2)) ∧ Below W.heap.size W w') := Lib.hid (fun W => disk.name_any z2 hz2' W)
      have HE4 : Hid (∀ wn, Below wr.drew.heap.size wr.drew wn → Below wr.heap.size wr wn ∧ w2.heap.size < wn.heap.size ∧ wn.heap[w2.heap.size]? = some (.cells #[.slice A n c, .int .i64 room, .int .i64 (-1), .bool false] 24 (0, 0))) := Lib.hid (fun wn hgn => by
        have h4 : Below wr.heap.size wr wn := ((Below.refl _ _).drew).trans hgn
        exact ⟨h4, by have := h4.size; omega, (h4.block w2.heap.size hz).trans E0.out⟩)
      clear hf
      go_wp2
      go_cut [13] from 65 to 71 (fun v wx => v = .int .i64 r.2 ∧ disk.Stands 24 wx w2.heap.size [w2.heap.size] r.1 ∧ Below w.heap.size w wx ∧ w2.heap.size < wx.heap.size)
      case first =>
        go_region_with (first
            | (go_at_call 33; refine Calls.mono (HNA.out _) ?_; rintro e wn ⟨rfl, hgn⟩; obtain ⟨hq4, hz4, e4⟩ := HE4.out _ hgn; have E4 := Lib.hid e4; clear e4; obtain ⟨dx0, df0⟩ := block_cell E4.out 0 _ rfl; obtain ⟨dx1, df1⟩ := block_cell E4.out 1 _ rfl; obtain ⟨dx2, df2⟩ := block_cell E4.out 2 _ rfl; obtain ⟨dx3, df3⟩ := block_cell E4.out 3 _ rfl)
            | (go_at_call 18; refine Calls.mono (HSY.out _ hq4) ?_; rintro e w5 ⟨A5, n5, c5, rfl, hr5, hl5, hm5, hc5, hg5⟩; have hq5 := hq4.trans (hg5.mono hq4.size); have hz5 : w2.heap.size < w5.heap.size := (by have := hg5.size; omega); have E5 := Lib.hid ((hg5.block w2.heap.size hz4).trans E4.out); obtain ⟨ex0, ef0⟩ := block_cell E5.out 0 _ rfl; obtain ⟨ex1, ef1⟩ := block_cell E5.out 1 _ rfl; obtain ⟨ex2, ef2⟩ := block_cell E5.out 2 _ rfl; obtain ⟨ex3, ef3⟩ := block_cell E5.out 3 _ rfl; have R5 := hr5.ret (by intro g hg; simp at hg; subst hg; exact hz4) hg5.size))
        all_goals (go_wp2_with fail; go_meet; exact ⟨rfl, ⟨A5, n5, c5, heap_set4_self _ _ _ _ E5.out, R5.set4 (by simp) _ _ _ _, hl5.out, hm5, hc5⟩, below_set4 (HQ.out.trans (hq5.mono HQ.out.size)) hz2 _ _ _ _, by rw [size_set4]; exact hz5⟩)
      case rest =>
        obtain ⟨rfl, hst, hq1, hz1⟩ := hcut
        have HYN : Hid (r.2 = 0 ∨ r.2 = 7) := Lib.hid (by have h := disk.sync_name HPL.out z2; rw [HV.out] at h; exact h)
        have HSH : Hid (r.2 = 0 → ∃ was, disk.readD r.1 (disk.nameOf z2) = (was, 0) ∧ disk.Has r.1.files (disk.nameOf z2) was) := Lib.hid (fun h => by
          have h2 := disk.sync_has (d := ⟨fs, room, -1, false⟩) (nm := disk.nameOf z2) HPL.out.1 (by rw [HV.out]; exact h)
          rw [HV.out] at h2
          obtain ⟨was, h3, h4, _⟩ := h2
          exact ⟨was, h3, h4⟩)
        obtain ⟨⟨fs1, room1, fuse1, down1⟩, y⟩ := r
        obtain ⟨hr1, hd1, hf1⟩ : disk.rightB ⟨fs1, room1, fuse1, down1⟩ = true ∧ down1 = false ∧ fuse1 = -1 := HPR.out
        subst hd1 hf1
        clear HSY HE4 HPL HPR HV hro hsh ax0 af0 ax1 af1 ax2 af2 ax3 af3 E0
        have hy : y = 7 ∨ y = 0 := by rcases HYN.out with h | h <;> simp only at h <;> omega
        rcases hy with rfl | rfl
        · go_wp2
          go_ret
          exact ⟨rfl, hq1⟩
        · obtain ⟨was, hrd, hhas⟩ := HSH.out rfl
          simp only at hrd hhas
          have HRD := Lib.hid hrd
          have HHAS := Lib.hid hhas
          have HR1 := Lib.hid hr1
          obtain ⟨A1, m1', k1', e1, hfl1, hn1, hnc1, hcm1⟩ := hst
          simp only at e1 hfl1 hn1
          have E1 := Lib.hid e1
          have HRE : Hid (∀ W, Below wc.heap.size wc W → Calls Try.prog 26 #[.agg #[.slice A1 m1' k1', .int .i64 room1, .int .i64 (-1), .bool false], .string (disk.nameOf z2)] W (disk.RetBytes (Off [w2.heap.size] W) W (was, 0))) := Lib.hid (fun W hb =>
            disk.dread A1 m1' k1' room1 (-1) false (disk.nameOf z2) fs1 (was, 0) (Off [w2.heap.size] W) W Off.lt (hfl1.grow hb) hn1 hnc1 hcm1 (disk.right_room hr1) (by unfold inI; omega) (disk.right_short hr1) (disk.nameOf_size _) hrd)
          have HE5 : Hid (∀ wn, Below wc.drew.heap.size wc.drew wn → Below wc.heap.size wc wn ∧ w2.heap.size < wn.heap.size ∧ wn.heap[w2.heap.size]? = some (.cells #[.slice A1 m1' k1', .int .i64 room1, .int .i64 (-1), .bool false] 24 (0, 0))) := Lib.hid (fun wn hgn => by
            have h4 : Below wc.heap.size wc wn := ((Below.refl _ _).drew).trans hgn
            exact ⟨h4, by have := h4.size; omega, (h4.block w2.heap.size hz1).trans E1.out⟩)
          have HST : Hid (∀ W, Below wc.heap.size wc W → disk.Stands 24 W w2.heap.size [w2.heap.size] ⟨fs1, room1, -1, false⟩) := Lib.hid (fun W hb => ⟨A1, m1', k1', (hb.block w2.heap.size hz1).trans E1.out, hfl1.grow hb, hn1, hnc1, hcm1⟩)
          have HQ1 := Lib.hid hq1
          obtain ⟨ax0, af0⟩ := block_cell E1.out 0 _ rfl
          obtain ⟨ax1, af1⟩ := block_cell E1.out 1 _ rfl
          obtain ⟨ax2, af2⟩ := block_cell E1.out 2 _ rfl
          obtain ⟨ax3, af3⟩ := block_cell E1.out 3 _ rfl
          (try simp only at ax0 ax1 ax2 ax3)
          clear hrd hhas hr1 e1 hfl1 hn1 hnc1 hcm1 HSH HYN
          go_wp2
          go_cut [14, 15] from 76 to 82 (fun v u wx => u = .int .i64 0 ∧ ∃ Aw nw cw, v = .slice Aw nw cw ∧ BysIn wx (Off [w2.heap.size] wx) Aw was ∧ was.length = nw ∧ nw ≤ cw ∧ cw ≤ maxLen ∧ disk.Stands 24 wx w2.heap.size [w2.heap.size] ⟨fs1, room1, -1, false⟩ ∧ Below w.heap.size w wx ∧ w2.heap.size < wx.heap.size)
          case first =>
            go_region_with (first
              | (go_at_call 33; refine Calls.mono (HNA.out _) ?_; rintro e wn ⟨rfl, hgn⟩; obtain ⟨hq4, hz4, e4⟩ := HE5.out _ hgn; have E4 := Lib.hid e4; clear e4; obtain ⟨dx0, df0⟩ := block_cell E4.out 0 _ rfl; obtain ⟨dx1, df1⟩ := block_cell E4.out 1 _ rfl; obtain ⟨dx2, df2⟩ := block_cell E4.out 2 _ rfl; obtain ⟨dx3, df3⟩ := block_cell E4.out 3 _ rfl)
              | (go_at_call 26; refine Calls.mono (HRE.out _ hq4) ?_; rintro e w5 ⟨A5, n5, c5, rfl, hr5, hl5, hm5, hc5, hg5⟩; have hq5 := hq4.trans (hg5.mono hq4.size)))
            all_goals (go_wp2_with fail; go_meet; exact ⟨rfl, A5, n5, c5, rfl, BysIn.ret hr5 (by intro g hg; simp at hg; subst hg; exact hz4) hg5.size, hl5.out, hm5, hc5, HST.out _ hq5, HQ1.out.trans (hq5.mono HQ1.out.size), by have := hg5.size; omega⟩)
          case rest =>
            obtain ⟨rfl, Aw, nw, cw, rfl, hbw0, hlw, hcw, hmw, hst2, hq2b, hz2b⟩ := hcut
            have HLW := Lib.hid hlw
            have HMW := Lib.hid hmw
            have hst3 := hst2
            have hbw1 := hbw0
            clear ax0 af0 ax1 af1 ax2 af2 ax3 af3 HRE HE5 HST HRD HQ1 E1 hlw hmw hst2 hbw0
            go_wp2
            go_loopw [16] (fun i wr => ∃ (k : Nat) (D : DiskD), k ≤ n1 ∧ i = .int .i64 k ∧ disk.Stands 24 wr w2.heap.size [w2.heap.size] D ∧ disk.Plain D ∧ disk.Has D.files (disk.nameOf z2) was ∧ BysIn wr (Off [w2.heap.size] wr) Aw was ∧ Below w.heap.size w wr ∧ w2.heap.size < wr.heap.size) (fun i _ => n1 - (intOf i).toNat)
            case atStart => exact ⟨0, ⟨fs1, room1, -1, false⟩, Nat.zero_le _, rfl, hst3, ⟨HR1.out, rfl, rfl⟩, HHAS.out, hbw1, hq2b, hz2b⟩
            case round =>
              clear hst3 hbw1 hq2b hz2b
              obtain ⟨k, D, hk, rfl, ⟨A, n, c, e0, hf, hn, hnc, hcm⟩, hpl, hhs, hbw, hq, hz⟩ := hrel
              have E0 := Lib.hid e0
              have HN := Lib.hid hn; have HNC := Lib.hid hnc; have HCM := Lib.hid hcm
              obtain ⟨fs, room, fuse, down⟩ := D
              have HPL := Lib.hid hpl
              have HHS := Lib.hid hhs
              have HBW := Lib.hid hbw
              have HF := Lib.hid hf
              have HQ := Lib.hid hq
              obtain ⟨y1, rfl, rfl⟩ : disk.rightB ⟨fs, room, fuse, down⟩ = true ∧ down = false ∧ fuse = -1 := hpl
              clear e0 hn hnc hcm y1 hhs hbw hf
              by_cases hlt : k < n1
              · obtain ⟨b, off, x, Ax, nx, cx, rfl, hb, HX, cell0, cell1, cell2, cell3, cell4, h1, h2, h3, h4, h5, h6, h7, h8⟩ := (HD1.out wr [w2.heap.size] hq (by simp; omega)).at_ (j := k) (by rw [HN1.out]; exact hlt)
                have hb1 := hb.1
                obtain ⟨nt, hnt⟩ : ∃ nt, min nx 100 = nt := ⟨_, rfl⟩
                have hmn : (min (nx : Int) 100).toNat = nt := by omega
                have hmb0 : (0 : Int) ≤ min (nx : Int) 100 := by omega
                have hmb1 : min (nx : Int) 100 ≤ (cx : Int) := by omega
                have HTL : Hid ((x.data.take 100).length = nt) := Lib.hid (by rw [List.length_take, h6.out]; omega)
                have HB5 : Hid (BysIn wr (Off [w2.heap.size] wr) Ax (x.data.take 100)) := Lib.hid (bys_taken h5 100)
                have HNT : Hid (nt ≤ 100 ∧ nt ≤ cx) := Lib.hid (by omega)
                have HC8 := Lib.hid h8
                have H1 := Lib.hid h1; have H2 := Lib.hid h2; have H3 := Lib.hid h3; have H4 := Lib.hid h4
                obtain ⟨bb, hbb⟩ : ∃ bb, decide (3 ≤ x.kind % 6 ∧ (disk.nameOf x.file = disk.nameOf z2 ∨ disk.nameOf x.to = disk.nameOf z2)) = bb := ⟨_, rfl⟩
                have HNF : Hid (∀ W, Calls Try.prog 33 #[.int .u8 (x.file : Int)] W fun e w' => e = .returned (.string (disk.nameOf x.file)) ∧ Below W.heap.size W w') := Lib.hid (fun W => disk.name_any x.file h2 W)
                have HNO : Hid (∀ W, Calls Try.prog 33 #[.int .u8 (x.to : Int)] W fun e w' => e = .returned (.string (disk.nameOf x.to)) ∧ Below W.heap.size W w') := Lib.hid (fun W => disk.name_any x.to h3 W)
                have EX := Lib.hid (heap_alloc_new wr (.cells #[.int .u8 (x.kind : Int), .int .u8 (x.file : Int), .int .u8 (x.to : Int), .int .u8 (x.n : Int), .slice Ax nt cx] 58))
                have hcase : (x.kind % 6 < 3 ∧ bb = false) ∨ (3 ≤ x.kind % 6 ∧ disk.nameOf x.file = disk.nameOf z2 ∧ bb = true) ∨ (3 ≤ x.kind % 6 ∧ disk.nameOf x.file ≠ disk.nameOf z2 ∧ disk.nameOf x.to = disk.nameOf z2 ∧ bb = true) ∨ (3 ≤ x.kind % 6 ∧ disk.nameOf x.file ≠ disk.nameOf z2 ∧ disk.nameOf x.to ≠ disk.nameOf z2 ∧ bb = false) := by
                  rw [← hbb]
                  by_cases g1 : 3 ≤ x.kind % 6 <;> by_cases g2 : disk.nameOf x.file = disk.nameOf z2 <;> by_cases g3 : disk.nameOf x.to = disk.nameOf z2 <;> simp [g1, g2, g3] <;> omega
                have HCASE := Lib.hid hcase
                clear hcase hbb h5 hb h1 h2 h3 h4 hq
                unfold maxLen at h8
                go_upto_region 21 with (fail)
                go_cut [120] from 101 to 119 (fun v wx => v = .bool bb ∧ Below (wr.heap.size + 1) (wr.alloc (.cells #[.int .u8 (x.kind : Int), .int .u8 (x.file : Int), .int .u8 (x.to : Int), .int .u8 (x.n : Int), .slice Ax nt cx] 58)) wx)
                case first =>
                  have hcu : Below (wr.heap.size + 1) (wr.alloc (.cells #[.int .u8 (x.kind : Int), .int .u8 (x.file : Int), .int .u8 (x.to : Int), .int .u8 (x.n : Int), .slice Ax nt cx] 58)) (wr.alloc (.cells #[.int .u8 (x.kind : Int), .int .u8 (x.file : Int), .int .u8 (x.to : Int), .int .u8 (x.n : Int), .slice Ax nt cx] 58)) := Below.refl _ _
                  have hlz : wr.heap.size < (wr.alloc (.cells #[.int .u8 (x.kind : Int), .int .u8 (x.file : Int), .int .u8 (x.to : Int), .int .u8 (x.n : Int), .slice Ax nt cx] 58)).heap.size := by simp
                  rcases HCASE.out with ⟨g1, rfl⟩ | ⟨g1, g2, rfl⟩ | ⟨g1, g2, g3, rfl⟩ | ⟨g1, g2, g3, rfl⟩
                  · have h6i : (x.kind : Int) % 6 < 3 := by omega
                    clear g1
                    go_wp2
                    go_meet
                    exact ⟨rfl, hcu⟩
                  · have h6i : 3 ≤ (x.kind : Int) % 6 := by omega
                    have h7i : ((disk.nameOf x.file).toList == (disk.nameOf z2).toList) = true := by rw [g2]; simp
                    clear g1 g2
                    go_wp2_with (first | ((with_reducible refine (HNF.out _).mono ?_); rintro e wn ⟨rfl, hgn⟩; have EX := Lib.hid ((hgn.block wr.heap.size hlz).trans EX.out); obtain ⟨xc2, xf2⟩ := block_cell EX.out 2 _ rfl; have hcu := hcu.trans (hgn.mono hlz); have hlz := Nat.lt_of_lt_of_le hlz hgn.size) | ((with_reducible refine (HNA.out _).mono ?_); rintro e wn ⟨rfl, hgn⟩; have EX := Lib.hid ((hgn.block wr.heap.size hlz).trans EX.out); obtain ⟨xc2, xf2⟩ := block_cell EX.out 2 _ rfl; have hcu := hcu.trans (hgn.mono hlz); have hlz := Nat.lt_of_lt_of_le hlz hgn.size))
                    go_meet
                    exact ⟨rfl, hcu⟩
                  · have h6i : 3 ≤ (x.kind : Int) % 6 := by omega
                    have h7i : ((disk.nameOf x.file).toList == (disk.nameOf z2).toList) = false := by simpa using fun e => g2 (disk.name_eq.1 e)
                    have h8i : ((disk.nameOf x.to).toList == (disk.nameOf z2).toList) = true := by rw [g3]; simp
                    clear g1 g2 g3
                    go_wp2_with (first | ((with_reducible refine (HNF.out _).mono ?_); rintro e wn ⟨rfl, hgn⟩; have EX := Lib.hid ((hgn.block wr.heap.size hlz).trans EX.out); obtain ⟨xc2, xf2⟩ := block_cell EX.out 2 _ rfl; have hcu := hcu.trans (hgn.mono hlz); have hlz := Nat.lt_of_lt_of_le hlz hgn.size) | ((with_reducible refine (HNO.out _).mono ?_); rintro e wn ⟨rfl, hgn⟩; have EX := Lib.hid ((hgn.block wr.heap.size hlz).trans EX.out); obtain ⟨xc2, xf2⟩ := block_cell EX.out 2 _ rfl; have hcu := hcu.trans (hgn.mono hlz); have hlz := Nat.lt_of_lt_of_le hlz hgn.size) | ((with_reducible refine (HNA.out _).mono ?_); rintro e wn ⟨rfl, hgn⟩; have EX := Lib.hid ((hgn.block wr.heap.size hlz).trans EX.out); obtain ⟨xc2, xf2⟩ := block_cell EX.out 2 _ rfl; have hcu := hcu.trans (hgn.mono hlz); have hlz := Nat.lt_of_lt_of_le hlz hgn.size))
                    go_meet
                    exact ⟨rfl, hcu⟩
                  · have h6i : 3 ≤ (x.kind : Int) % 6 := by omega
                    have h7i : ((disk.nameOf x.file).toList == (disk.nameOf z2).toList) = false := by simpa using fun e => g2 (disk.name_eq.1 e)
                    have h8i : ((disk.nameOf x.to).toList == (disk.nameOf z2).toList) = false := by simpa using fun e => g3 (disk.name_eq.1 e)
                    clear g1 g2 g3
                    go_wp2_with (first | ((with_reducible refine (HNF.out _).mono ?_); rintro e wn ⟨rfl, hgn⟩; have EX := Lib.hid ((hgn.block wr.heap.size hlz).trans EX.out); obtain ⟨xc2, xf2⟩ := block_cell EX.out 2 _ rfl; have hcu := hcu.trans (hgn.mono hlz); have hlz := Nat.lt_of_lt_of_le hlz hgn.size) | ((with_reducible refine (HNO.out _).mono ?_); rintro e wn ⟨rfl, hgn⟩; have EX := Lib.hid ((hgn.block wr.heap.size hlz).trans EX.out); obtain ⟨xc2, xf2⟩ := block_cell EX.out 2 _ rfl; have hcu := hcu.trans (hgn.mono hlz); have hlz := Nat.lt_of_lt_of_le hlz hgn.size) | ((with_reducible refine (HNA.out _).mono ?_); rintro e wn ⟨rfl, hgn⟩; have EX := Lib.hid ((hgn.block wr.heap.size hlz).trans EX.out); obtain ⟨xc2, xf2⟩ := block_cell EX.out 2 _ rfl; have hcu := hcu.trans (hgn.mono hlz); have hlz := Nat.lt_of_lt_of_le hlz hgn.size))
                    go_meet
                    exact ⟨rfl, hcu⟩
                case rest =>
                  obtain ⟨rfl, hcx⟩ := hcut
                  have hsza : (wr.alloc (.cells #[.int .u8 (x.kind : Int), .int .u8 (x.file : Int), .int .u8 (x.to : Int), .int .u8 (x.n : Int), .slice Ax nt cx] 58)).heap.size = wr.heap.size + 1 := by simp
                  have hszc : wr.heap.size < wc.heap.size := by have := hcx.size; rw [hsza] at this; omega
                  have hqc : Below w.heap.size w wc := (HQ.out.alloc HQ.out.size _).trans (hcx.mono (by have := HQ.out.size; omega))
                  have hzc : w2.heap.size < wc.heap.size := by omega
                  have EXc := Lib.hid ((hcx.block wr.heap.size (Nat.lt_succ_self _)).trans EX.out)
                  have EDc := Lib.hid ((hcx.block w2.heap.size (by omega)).trans ((Below.heap_alloc _ _ _ hz).trans E0.out))
                  have hba : Below wr.heap.size wr wc := ((Below.refl _ _).alloc (Nat.le_refl _) _).trans (hcx.mono (by omega))
                  have HFc := Lib.hid (HF.out.grow hba)
                  have HBWc := Lib.hid (BysIn.grow HBW.out hba)
                  have HQC := Lib.hid hqc
                  clear hqc
                  cases bb with
                  | true =>
                    go_wp2
                    go_roundw
                    case rel => exact ⟨k + 1, ⟨fs, room, -1, false⟩, by omega, by go_num, ⟨A, n, c, EDc.out, HFc.out, HN.out, HNC.out, HCM.out⟩, HPL.out, HHS.out, HBWc.out, HQC.out, hzc⟩
                    case measure => first | (simp [intOf]; done) | (simp [intOf]; omega)
                  | false =>
                    have hk6 : 3 ≤ x.kind % 6 → disk.nameOf x.file ≠ disk.nameOf z2 ∧ disk.nameOf x.to ≠ disk.nameOf z2 := fun g => by
                      rcases HCASE.out with ⟨g1, _⟩ | ⟨_, _, g2⟩ | ⟨_, _, _, g2⟩ | ⟨_, g2, g3, _⟩
                      · omega
                      · cases g2
                      · cases g2
                      · exact ⟨g2, g3⟩
                    obtain ⟨r3, HV3⟩ : ∃ r, Hid (disk.doD ⟨fs, room, -1, false⟩ ⟨x.kind, x.file, x.to, x.n, x.data.take 100⟩ = r) := ⟨_, Lib.hid rfl⟩
                    have HP3 : Hid (disk.Plain r3.1) := Lib.hid (by rw [← HV3.out]; exact disk.plain_do HPL.out _)
                    have HS3 : Hid (disk.Has r3.1.files (disk.nameOf z2) was) := Lib.hid (by rw [← HV3.out]; exact disk.has_do HPL.out.1 HHS.out hk6)
                    have HDO := Lib.hid (disk.do_any A Ax n c nt cx room (-1) false fs ⟨x.kind, x.file, x.to, x.n, x.data.take 100⟩ r3 (Off [w2.heap.size] wc) wc Off.lt HFc.out HN.out HNC.out HCM.out (disk.right_room HPL.out.1) (by unfold inI; omega) (disk.right_short HPL.out.1) H1.out H2.out H3.out H4.out (HB5.out.grow hba) HTL.out HNT.out.2 HC8.out (by have := HNT.out; omega) HV3.out)
                    have HBA := Lib.hid hba
                    clear hk6 hba hcx hsza
                    obtain ⟨ax0, af0⟩ := block_cell EDc.out 0 _ rfl
                    obtain ⟨ax1, af1⟩ := block_cell EDc.out 1 _ rfl
                    obtain ⟨ax2, af2⟩ := block_cell EDc.out 2 _ rfl
                    obtain ⟨ax3, af3⟩ := block_cell EDc.out 3 _ rfl
                    obtain ⟨ex0, ef0⟩ := block_cell EXc.out 0 _ rfl
                    obtain ⟨ex1, ef1⟩ := block_cell EXc.out 1 _ rfl
                    obtain ⟨ex2, ef2⟩ := block_cell EXc.out 2 _ rfl
                    obtain ⟨ex3, ef3⟩ := block_cell EXc.out 3 _ rfl
                    obtain ⟨ex4, ef4⟩ := block_cell EXc.out 4 _ rfl
                    obtain ⟨⟨fs3, room3, fuse3, down3⟩, y3⟩ := r3
                    obtain ⟨hr3, hd3, hf3⟩ : disk.rightB ⟨fs3, room3, fuse3, down3⟩ = true ∧ down3 = false ∧ fuse3 = -1 := HP3.out
                    subst hd3 hf3
                    have HRI3 := Lib.hid hr3
                    have HPB : Hid (∃ D, disk.backD ⟨fs3, room3, -1, false⟩ x3 (-1) = (D, 0) ∧ disk.Plain D ∧ D.files = disk.backF x3 fs3) := Lib.hid (by
                      obtain ⟨g1, g2, g3⟩ := disk.plain_back hr3 x3
                      exact ⟨_, Prod.ext rfl g1, g2, g3⟩)
                    obtain ⟨⟨fsb, roomb, fuseb, downb⟩, hb1', hb2', hb3'⟩ := HPB.out
                    obtain ⟨hrb, hdb, hfb⟩ : disk.rightB ⟨fsb, roomb, fuseb, downb⟩ = true ∧ downb = false ∧ fuseb = -1 := hb2'
                    subst hdb hfb
                    have HBD := Lib.hid hb1'
                    have HRB := Lib.hid hrb
                    have HHB : Hid (disk.Has fsb (disk.nameOf z2) was) := Lib.hid (by
                      simp only at hb3'
                      rw [hb3']
                      exact disk.has_back (disk.right_files hr3) HS3.out)
                    clear hr3 hb1' hb3' hrb
                    go_wp2_with (first
                      | ((with_reducible refine HDO.out.mono ?_); rintro e w3 ⟨A3, m3, k3, rfl, hr3, hl3, hm3, hc3, hg3⟩; have hz3 : w2.heap.size < w3.heap.size := (by have := hg3.size; omega); have ED3 := Lib.hid ((hg3.block w2.heap.size hzc).trans EDc.out); have EX3 := Lib.hid ((hg3.block wr.heap.size hszc).trans EXc.out); obtain ⟨bx0, bf0⟩ := block_cell ED3.out 0 _ rfl; obtain ⟨bx1, bf1⟩ := block_cell ED3.out 1 _ rfl; obtain ⟨bx2, bf2⟩ := block_cell ED3.out 2 _ rfl; obtain ⟨bx3, bf3⟩ := block_cell ED3.out 3 _ rfl; have HR3 := Lib.hid ((hr3.ret (by intro g hg; simp at hg; subst hg; exact hzc) hg3.size).set4 (g := w2.heap.size) (by simp) (.slice A3 m3 k3) (.int .i64 room3) (.int .i64 (-1)) (.bool false)); have HQ3' := Lib.hid (below_set4 (HQC.out.trans (hg3.mono HQC.out.size)) hz2 (.slice A3 m3 k3) (.int .i64 room3) (.int .i64 (-1)) (.bool false)); have HBK := Lib.hid (disk.dback A3 m3 k3 room3 (-1) false p3 n3 c3 (-1) x3 fs3 _ (Off [w2.heap.size] _) _ Off.lt HR3.out hl3.out hm3 hc3 (disk.right_room HRI3.out) (by unfold inI; omega) (disk.right_short HRI3.out) (hk3.given HQ3'.out (by intro g hg; simp at hg; subst hg; exact hz2)) hkn3 hkc3 hkm3 (by omega) (by unfold inI; omega) HBD.out))
                      | ((with_reducible refine HBK.out.mono ?_); rintro e w5 ⟨A5, m5, k5, rfl, hr5, hl5, hm5, hc5, hg5⟩; have hs35 := hg5.size; rw [size_set4] at hs35))
                    have ED5 := Lib.hid ((hg5.block w2.heap.size (by rw [size_set4]; omega)).trans (heap_set4_self _ _ _ _ ED3.out))
                    have hsr3 := hg3.size
                    have EX5 := Lib.hid ((hg5.block wr.heap.size (by rw [size_set4]; omega)).trans ((heap_set4 _ _ _ _ (by omega)).trans EX3.out))
                    have HQ5 := Lib.hid (HQ3'.out.trans (hg5.mono HQ3'.out.size))
                    have HB5' := Lib.hid (hr5.ret (by intro g hg; simp at hg; subst hg; rw [size_set4]; exact hz3) hg5.size)
                    have HA5 := Lib.hid (HR3.out.grow hg5)
                    have HW5 := Lib.hid (BysIn.grow ((BysIn.grow HBWc.out hg3).set4 (g := w2.heap.size) (by simp) (.slice A3 m3 k3) (.int .i64 room3) (.int .i64 (-1)) (.bool false)) hg5)
                    have EB6 := Lib.hid (heap_alloc_new w5 (.cells #[.slice A5 m5 k5, .int .i64 roomb, .int .i64 (-1), .bool false] 24))
                    have ED6 := Lib.hid ((Below.heap_alloc w5 (.cells #[.slice A5 m5 k5, .int .i64 roomb, .int .i64 (-1), .bool false] 24) w2.heap.size (by omega)).trans ED5.out)
                    have EX6 := Lib.hid ((Below.heap_alloc w5 (.cells #[.slice A5 m5 k5, .int .i64 roomb, .int .i64 (-1), .bool false] 24) wr.heap.size (by omega)).trans EX5.out)
                    have HQ6 := Lib.hid (HQ5.out.alloc HQ5.out.size (.cells #[.slice A5 m5 k5, .int .i64 roomb, .int .i64 (-1), .bool false] 24))
                    have HB6 := Lib.hid (HB5'.out.alloc (.cells #[.slice A5 m5 k5, .int .i64 roomb, .int .i64 (-1), .bool false] 24))
                    have HA6 := Lib.hid (HA5.out.alloc (.cells #[.slice A5 m5 k5, .int .i64 roomb, .int .i64 (-1), .bool false] 24))
                    have HW6 := Lib.hid (BysIn.grow HW5.out ((Below.refl _ _).alloc (Nat.le_refl _) (.cells #[.slice A5 m5 k5, .int .i64 roomb, .int .i64 (-1), .bool false] 24)))
                    have hsz6 : (w5.alloc (.cells #[.slice A5 m5 k5, .int .i64 roomb, .int .i64 (-1), .bool false] 24)).heap.size = w5.heap.size + 1 := by simp
                    have HL5 := hl5
                    have HL3 := hl3
                    obtain ⟨now, hnow, hpre⟩ := disk.has_read (d := ⟨fsb, roomb, -1, false⟩) HRB.out rfl HHB.out
                    have HPRE := Lib.hid hpre
                    have HNOW := Lib.hid hnow
                    clear hg3 hr3 hg5 hr5 ED3 EX3 ED5 EX5 HQ5 HB5' HA5 HW5 HBK HDO HQ3' HR3 bx0 bf0 bx1 bf1 bx2 bf2 bx3 bf3 ax0 af0 ax1 af1 ax2 af2 ax3 af3 ex0 ef0 ex1 ef1 ex2 ef2 ex3 ef3 ex4 ef4 hnow hpre
                    generalize w5.alloc (.cells #[.slice A5 m5 k5, .int .i64 roomb, .int .i64 (-1), .bool false] 24) = w6 at *
                    have HRDB : Hid (∀ W, Below w6.heap.size w6 W → Calls Try.prog 26 #[.agg #[.slice A5 m5 k5, .int .i64 roomb, .int .i64 (-1), .bool false], .string (disk.nameOf z2)] W (disk.RetBytes (Off [w2.heap.size] W) W (now, 0))) := Lib.hid (fun W hb =>
                      disk.dread A5 m5 k5 roomb (-1) false (disk.nameOf z2) fsb (now, 0) (Off [w2.heap.size] W) W Off.lt (HB6.out.grow hb) HL5.out hm5 hc5 (disk.right_room HRB.out) (by unfold inI; omega) (disk.right_short HRB.out) (disk.nameOf_size _) HNOW.out)
                    have HE6 : Hid (∀ wn, Below w6.drew.heap.size w6.drew wn → Below w6.heap.size w6 wn ∧ wn.heap[w5.heap.size]? = some (.cells #[.slice A5 m5 k5, .int .i64 roomb, .int .i64 (-1), .bool false] 24 (0, 0))) := Lib.hid (fun wn hgn => by
                      have h4 : Below w6.heap.size w6 wn := ((Below.refl _ _).drew).trans hgn
                      exact ⟨h4, (h4.block w5.heap.size (by omega)).trans EB6.out⟩)
                    obtain ⟨ax0, af0⟩ := block_cell EB6.out 0 _ rfl
                    obtain ⟨ax1, af1⟩ := block_cell EB6.out 1 _ rfl
                    obtain ⟨ax2, af2⟩ := block_cell EB6.out 2 _ rfl
                    obtain ⟨ax3, af3⟩ := block_cell EB6.out 3 _ rfl
                    go_cut [20, 21] from 133 to 139 (fun v u wx => u = .int .i64 0 ∧ ∃ An nn cn, v = .slice An nn cn ∧ BysIn wx (Off [w2.heap.size] wx) An now ∧ now.length = nn ∧ nn ≤ cn ∧ cn ≤ maxLen ∧ Below w6.heap.size w6 wx)
                    case first =>
                      go_region_with (first
                        | (go_at_call 33; refine Calls.mono (HNA.out _) ?_; rintro e wn ⟨rfl, hgn⟩; obtain ⟨hq4, e4⟩ := HE6.out _ hgn; have E4 := Lib.hid e4; clear e4; obtain ⟨dx0, df0⟩ := block_cell E4.out 0 _ rfl; obtain ⟨dx1, df1⟩ := block_cell E4.out 1 _ rfl; obtain ⟨dx2, df2⟩ := block_cell E4.out 2 _ rfl; obtain ⟨dx3, df3⟩ := block_cell E4.out 3 _ rfl)
                        | (go_at_call 26; refine Calls.mono (HRDB.out _ hq4) ?_; rintro e w7 ⟨A7, n7, c7, rfl, hr7, hl7, hm7, hc7, hg7⟩; have hq7 := hq4.trans (hg7.mono hq4.size)))
                      all_goals (go_wp2_with fail; go_meet; exact ⟨rfl, A7, n7, c7, rfl, BysIn.ret hr7 (by intro g hg; simp at hg; subst hg; have := hq4.size; omega) hg7.size, hl7.out, hm7, hc7, hq7⟩)
                    case rest =>
                      obtain ⟨rfl, An, nn, cn, rfl, hbn, hln, hcn, hmn7, hq7⟩ := hcut
                      have hsz7 := hq7.size
                      have EX7 := Lib.hid ((hq7.block wr.heap.size (by omega)).trans EX6.out)
                      have ED7 := Lib.hid ((hq7.block w2.heap.size (by omega)).trans ED6.out)
                      have EB7 := Lib.hid ((hq7.block w5.heap.size (by omega)).trans EB6.out)
                      have HBG := Lib.hid (disk.begins_yes An Aw nn cn nw cw wc.heap.size now was wc (hbn.bys Off.lt) ((BysIn.grow HW6.out hq7).bys Off.lt) hln HLW.out hcn hmn7 HPRE.out)
                      have HQ7 := Lib.hid (HQ6.out.trans (hq7.mono HQ6.out.size))
                      have HA7 := Lib.hid (HA6.out.grow hq7)
                      have HB7 := Lib.hid (HB6.out.grow hq7)
                      have HW7 := Lib.hid (BysIn.grow HW6.out hq7)
                      clear hbn hln hcn hmn7 hq7 ax0 af0 ax1 af1 ax2 af2 ax3 af3
                      by_cases hN : x.n % 4 = 0
                      · have h4i : (x.n : Int) % 4 = 0 := by omega
                        clear hN
                        go_wp2_with ((with_reducible refine HBG.out.mono ?_); rintro e wq ⟨rfl, mq, hwq⟩; have EDq : Hid (wq.heap[w2.heap.size]? = some (.cells #[.slice A3 m3 k3, .int .i64 room3, .int .i64 (-1), .bool false] 24 (0, 0))) := Lib.hid (by rw [hwq]; exact ED7.out); have EBq : Hid (wq.heap[w5.heap.size]? = some (.cells #[.slice A5 m5 k5, .int .i64 roomb, .int .i64 (-1), .bool false] 24 (0, 0))) := Lib.hid (by rw [hwq]; exact EB7.out); have EXq : Hid (wq.heap[wr.heap.size]? = some (.cells #[.int .u8 (x.kind : Int), .int .u8 (x.file : Int), .int .u8 (x.to : Int), .int .u8 (x.n : Int), .slice Ax nt cx] 58 (0, 0))) := Lib.hid (by rw [hwq]; exact EX7.out); have HWQ := Lib.hid hwq; clear hwq; obtain ⟨gx3, gf3⟩ := block_cell EXq.out 3 _ rfl; obtain ⟨bx0, bf0⟩ := block_cell EBq.out 0 _ rfl; obtain ⟨bx1, bf1⟩ := block_cell EBq.out 1 _ rfl; obtain ⟨bx2, bf2⟩ := block_cell EBq.out 2 _ rfl; obtain ⟨bx3, bf3⟩ := block_cell EBq.out 3 _ rfl; obtain ⟨ax0, af0⟩ := block_cell EDq.out 0 _ rfl; obtain ⟨ax1, af1⟩ := block_cell EDq.out 1 _ rfl; obtain ⟨ax2, af2⟩ := block_cell EDq.out 2 _ rfl; obtain ⟨ax3, af3⟩ := block_cell EDq.out 3 _ rfl; have HQq : Hid (Below wc.heap.size wc wq) := Lib.hid (by rw [HWQ.out]; exact below_drewN (Below.refl _ _) mq); have hszq : wc.heap.size ≤ wq.heap.size := HQq.out.size)
                        go_roundw
                        case rel => exact ⟨k + 1, ⟨fsb, roomb, -1, false⟩, by omega, by go_num, ⟨A5, m5, k5, heap_set4_self _ _ _ _ EDq.out, (HB7.out.grow HQq.out).set4 (by simp) _ _ _ _, HL5.out, hm5, hc5⟩, ⟨HRB.out, rfl, rfl⟩, HHB.out, (BysIn.grow HW7.out HQq.out).set4 (by simp) _ _ _ _, below_set4 (HQ7.out.trans (HQq.out.mono HQ7.out.size)) hz2 _ _ _ _, by rw [size_set4]; omega⟩
                        case measure => first | (simp [intOf]; done) | (simp [intOf]; omega)
                      · have h4i : ((x.n : Int) % 4 == 0) = false := by simp; omega
                        clear hN
                        go_wp2_with ((with_reducible refine HBG.out.mono ?_); rintro e wq ⟨rfl, mq, hwq⟩; have EDq : Hid (wq.heap[w2.heap.size]? = some (.cells #[.slice A3 m3 k3, .int .i64 room3, .int .i64 (-1), .bool false] 24 (0, 0))) := Lib.hid (by rw [hwq]; exact ED7.out); have EBq : Hid (wq.heap[w5.heap.size]? = some (.cells #[.slice A5 m5 k5, .int .i64 roomb, .int .i64 (-1), .bool false] 24 (0, 0))) := Lib.hid (by rw [hwq]; exact EB7.out); have EXq : Hid (wq.heap[wr.heap.size]? = some (.cells #[.int .u8 (x.kind : Int), .int .u8 (x.file : Int), .int .u8 (x.to : Int), .int .u8 (x.n : Int), .slice Ax nt cx] 58 (0, 0))) := Lib.hid (by rw [hwq]; exact EX7.out); have HWQ := Lib.hid hwq; clear hwq; obtain ⟨gx3, gf3⟩ := block_cell EXq.out 3 _ rfl; obtain ⟨bx0, bf0⟩ := block_cell EBq.out 0 _ rfl; obtain ⟨bx1, bf1⟩ := block_cell EBq.out 1 _ rfl; obtain ⟨bx2, bf2⟩ := block_cell EBq.out 2 _ rfl; obtain ⟨bx3, bf3⟩ := block_cell EBq.out 3 _ rfl; obtain ⟨ax0, af0⟩ := block_cell EDq.out 0 _ rfl; obtain ⟨ax1, af1⟩ := block_cell EDq.out 1 _ rfl; obtain ⟨ax2, af2⟩ := block_cell EDq.out 2 _ rfl; obtain ⟨ax3, af3⟩ := block_cell EDq.out 3 _ rfl; have HQq : Hid (Below wc.heap.size wc wq) := Lib.hid (by rw [HWQ.out]; exact below_drewN (Below.refl _ _) mq); have hszq : wc.heap.size ≤ wq.heap.size := HQq.out.size)
                        go_roundw
                        case rel => exact ⟨k + 1, ⟨fs3, room3, -1, false⟩, by omega, by go_num, ⟨A3, m3, k3, EDq.out, HA7.out.grow HQq.out, HL3.out, hm3, hc3⟩, HP3.out, HS3.out, BysIn.grow HW7.out HQq.out, HQ7.out.trans (HQq.out.mono HQ7.out.size), by omega⟩
                        case measure => first | (simp [intOf]; done) | (simp [intOf]; omega)
              · go_wp2
                go_ret
                exact ⟨rfl, HQ.out⟩

set_option maxRecDepth 100000 in
theorem lifted (os : Os) (started : os.Started) (H : Type) (enc : TypeId × Value → H) :
    ReturnsInHanded {} Try.checked os 6 .any (Rows.diskLastsSpec.pre6 enc Try.prog Try.f6 Rows.diskLastsRow.domain false) (Rows.diskLastsSpec.post enc Try.prog Try.f6 false true false false) := by
  refine returnsInHanded_of_change (C := Try.checked) own started (by kernel_rfl) Try.func6
    (ChangeSpec.witness6 (enc := enc) (C := Try.checked) false ⟨#[], #[.slice none 0 0, .slice none 0 0, .int .u8 0, .slice none 0 0], []⟩ 8 (by kernel_rfl) (by kernel_rfl) (by kernel_rfl) (by kernel_rfl)) ?_
  intro W base args ds gs before hval0 hW hcnd _
  have hval : ∀ (j : Nat) t v, Try.f6.params[j]? = some t → args[j]? = some v → Value.okWide Try.prog W .any base t v := hval0
  have hW' := hW
  obtain ⟨p, q, hA0, hV, rfl, hfz, hnd⟩ := hW
  have hA : DataW.TrodAll enc Try.prog W 0 (fun _ => true) true Try.f6.params.toList args.toList ds p := hA0
  rw [Try.params6] at hA hval
  obtain ⟨v0, vs0, d0, ds0, p0_, q0, hargs, rfl, rfl, h0, r0⟩ := trodAll_cons hA
  obtain ⟨v1, vs1, d1, ds1, p1_, q1, rfl, rfl, rfl, h1, r1⟩ := trodAll_cons r0
  obtain ⟨v2, vs2, d2, ds2, p2_, q2, rfl, rfl, rfl, h2, r2⟩ := trodAll_cons r1
  obtain ⟨v3, vs3, d3, ds3, p3_, q3, rfl, rfl, rfl, h3, r3⟩ := trodAll_cons r2
  obtain ⟨rfl, rfl, rfl⟩ := trodAll_nil r3
  obtain rfl : args = #[v0, v1, v2, v3] := by cases args; simp_all
  obtain ⟨rfl, rfl⟩ := trodVars_none hV
  obtain ⟨p0, n0, c0, rfl⟩ := okWide_slice Try.underlying55 (hval 0 55 v0 rfl rfl)
  have k0 := h0
  have lt0 : ∀ x ∈ p0_, x.block < W.heap.size := by obtain ⟨m, hm⟩ := k0; exact DataW.trod_lt m _ _ _ hm
  obtain ⟨x0, w0⟩ := of_arg (of_slice (size := 5) of_do Try.underlying55 (by kernel_rfl) (by decide)) k0
  obtain ⟨p1, n1, c1, rfl⟩ := okWide_slice Try.underlying55 (hval 1 55 v1 rfl rfl)
  have k1 := h1
  have lt1 : ∀ x ∈ p1_, x.block < W.heap.size := by obtain ⟨m, hm⟩ := k1; exact DataW.trod_lt m _ _ _ hm
  obtain ⟨x1, w1⟩ := of_arg (of_slice (size := 5) of_do Try.underlying55 (by kernel_rfl) (by decide)) k1
  obtain ⟨a2, rfl, rfl, rfl, w2⟩ := open_int Try.underlying5 (hval 2 5 v2 rfl rfl) h2
  obtain ⟨p3, n3, c3, rfl⟩ := okWide_slice Try.underlying26 (hval 3 26 v3 rfl rfl)
  have k3 := h3
  have lt3 : ∀ x ∈ p3_, x.block < W.heap.size := by obtain ⟨m, hm⟩ := k3; exact DataW.trod_lt m _ _ _ hm
  obtain ⟨x3, w3⟩ := of_arg (of_ints Try.underlying26 Try.underlying3 (by kernel_rfl)) k3
  clear hA0 hval0
  refine (walk p0 n0 c0 x0 p1 n1 c1 x1 a2 p3 n3 c3 x3 W w0 w1 w2 w3).mono fun e W' ⟨he, bel⟩ => ?_
  subst he
  exact ⟨_, rfl, _, _, _, [], _, [], hW', trodAll_mk1 (shut_bool Try.underlying4 _), (trodAll_cons_mk (Below.trod laidOut (by kernel_rfl) (of_decide_eq_true (by kernel_rfl)) k0 bel lt0) (trodAll_cons_mk (Below.trod laidOut (by kernel_rfl) (of_decide_eq_true (by kernel_rfl)) k1 bel lt1) (trodAll_cons_mk (shut_int Try.underlying5 w2) (trodAll_cons_mk (Below.trod laidOut (by kernel_rfl) (of_decide_eq_true (by kernel_rfl)) k3 bel lt3) trodAll_mk0)))), rfl, bel.frame _, fun h => by cases h⟩

theorem over : Rows.diskLastsRow.holds Try.pinned (OpenSpec.ofChange Rows.diskLastsSpec) :=
  OpenClaim.holds_of_wide 6 Try.f6 rfl rfl rfl rfl rfl rfl rfl ⟨rfl, rfl, rfl, rfl, rfl⟩ rfl rfl rfl rfl rfl (by kernel_rfl) Try.func6 (by kernel_rfl)
    (of_decide_eq_true (by kernel_rfl)) (by unfold Func.isWrapper; first | (rw [if_pos (by decide +kernel)]; kernel_rfl) | (rw [if_neg (by decide +kernel)]; exact ⟨rfl, rfl⟩))
    (fun os started H enc _ => lifted os started H enc)

theorem proved : Rows.DiskLastsSaid := over
#print axioms proved
end Go.Proofs.Ytbbmbfjlipgglaa.diskLasts
