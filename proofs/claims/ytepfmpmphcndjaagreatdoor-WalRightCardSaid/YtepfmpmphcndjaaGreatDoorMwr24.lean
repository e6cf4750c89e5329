/-
  FrameImpl3, FrameImpl4, Frs, FrameRef, ScanImpl1
-/
import Derived.Test.YtepfmpmphcndjaaGreatDoorMwr23
import Derived.Test.YtepfmpmphcndjaaGreatDoorMwr07
import Derived.Deep.RegionHeld3
import Derived.Deep.DeepCutAuto
import Derived.Test.YtepfmpmphcndjaaGreatDoorMwr06
import Derived.Test.YtepfmpmphcndjaaGreatDoorMwr05
import Derived.Deep.QuietTactic
import Derived.BigQuiet
import Derived.Test.YtepfmpmphcndjaaGreatDoorMwr20
import Derived.Test.YtepfmpmphcndjaaGreatDoorMwr03
set_option linter.unusedVariables false
set_option linter.unusedSimpArgs false
section
namespace Go.Proofs.YtepfmpmphcndjaaGreatDoor.frame
set_option maxRecDepth 20000
open Go.RowKit Go.Proofs.YtepfmpmphcndjaaGreatDoor
theorem Bys.from_ {w : World} {B b off : Nat} {bs : List Nat} (h : Bys w B (some ⟨b, off, none⟩) bs) (a : Nat) : Bys w B (some ⟨b, off + a, none⟩) (bs.drop a) := by
 refine ⟨fun x hx => h.1 x (by rw [toI_drop] at hx; exact List.mem_of_mem_drop hx), fun hn => ?_⟩
 rw [toI_len, List.length_drop] at hn
 obtain ⟨b', off', e, hlt, hc⟩ := h.2 (by rw [toI_len]; omega)
 simp only [Option.some.injEq, Addr.mk.injEq, and_true] at e
 obtain ⟨rfl, rfl⟩ := e
 refine ⟨_, _, rfl, hlt, fun j hj => ?_⟩
 rw [toI_len, List.length_drop] at hj
 rw [Nat.add_assoc, hc (a + j) (by rw [toI_len]; omega), toI_drop]
 simp [List.getD, List.getElem?_drop]
theorem Bys.seg_ {w : World} {B b off : Nat} {bs : List Nat} (h : Bys w B (some ⟨b, off, none⟩) bs) (a n : Nat) : Bys w B (some ⟨b, off + a, none⟩) (seg bs a n) := (Bys.from_ h a).take n
def Decoded (r : Int × Fr) (w : World) (e : Ending) (w' : World) : Prop := e = .returned (.tuple #[.agg (fc r.2), .int .i64 r.1]) ∧ Below w.heap.size w w'
theorem decode_short (A : Option Addr) (n cap : Nat) (bs : List Nat) (w : World) (hn : bs.length = n) (h : n ≠ 72) : Calls Tryz.prog 125 #[.slice A n cap] w (Decoded (dec bs) w) := by
 have hd : dec bs = (2, zero) := by unfold dec; rw [if_pos (.inl (by omega))]
 rw [hd]
 have ht : ((n : Int) != 72) = true := by simp; omega
 clear hd hn h
 go_enter Tryz.func125, Tryz.ntmps125
 go_wp2
 exact bodyPost_ret (v := .tuple #[.agg #[.int .i64 0, .int .i64 0, .int .i64 0, .int .i64 0, .int .i64 0, .int .i64 0, .int .i64 0, .int .i64 0, .int .i64 0], .int .i64 2]) (by simp [results, Tryz.results125, go_sem]) rfl ⟨rfl, (Below.refl _ _).alloc (Nat.le_refl _) _⟩
theorem number_seg {w : World} {b off : Nat} {bs : List Nat} (hx : Bys w w.heap.size (some ⟨b, off, none⟩) bs) (hn : bs.length = 72) (a n v : Nat) (ha : a + n ≤ 72) (h8 : n ≤ 8) (hv : num (seg bs a n) = v) (o c : Nat) (ho : off + a = o) (W : World) (hb : Below w.heap.size w W) :
  Calls Tryz.prog 150 #[.slice (some ⟨b, o, none⟩) n c] W fun e w' => e = .returned (.int .u64 (v : Int)) ∧ W = w' := by
 subst ho hv
 exact number_any _ n c w.heap.size _ W ((Bys.seg_ hx a n).below hb) (seg_len bs a n (by omega)) h8
theorem run_array4 (W : World) (b o c : Nat) : (Instr.arrayAt 178 (.slice (some ⟨b, o, none⟩) 4 c)).run Tryz.prog W = .ok (.pointer (some ⟨b, o, none⟩)) W := by
 simp [Instr.arrayAt, go_sem]
theorem le4_seg {bs : List Nat} {x0 x1 x2 x3 s : Nat} (X0 : bs[68]? = some x0) (X1 : bs[69]? = some x1) (X2 : bs[70]? = some x2) (X3 : bs[71]? = some x3) : seg bs 68 4 = le4 s ↔ (x0 = s % 256 ∧ x1 = s / 256 % 256 ∧ x2 = s / 65536 % 256 ∧ x3 = s / 16777216 % 256) := by
 have e : seg bs 68 4 = [x0, x1, x2, x3] := by
  unfold seg
  apply List.ext_getElem?
  intro i
  rw [List.getElem?_take, List.getElem?_drop]
  match i with
  | 0 => simpa using X0
  | 1 => simpa using X1
  | 2 => simpa using X2
  | 3 => simpa using X3
  |i + 4 => rw [if_neg (by omega)]; simp
 rw [e]
 simp [le4]
def part (f : Fr) (j : Nat) : List Value := [.int .i64 f.e, .int .i64 f.l, .int .i64 f.k] ++ ((List.range j).map fun i => Value.int .i64 (f.body i)) ++ List.replicate (6 - j) (.int .i64 0)
theorem part_zero (f : Fr) : (part f 0).toArray = #[.int .i64 f.e, .int .i64 f.l, .int .i64 f.k, .int .i64 0, .int .i64 0, .int .i64 0, .int .i64 0, .int .i64 0, .int .i64 0] := rfl
theorem part_all (f : Fr) : (part f 6).toArray = fc f := rfl
theorem part_set (f : Fr) (j : Nat) (hj : j < 6) : (part f j).set (3 + j) (.int .i64 (f.body j)) = part f (j + 1) := by
 rcases (show j = 0 ∨ j = 1 ∨ j = 2 ∨ j = 3 ∨ j = 4 ∨ j = 5 by omega) with rfl | rfl | rfl | rfl | rfl | rfl <;> rfl
theorem body_parse (bs : List Nat) (j : Nat) (hj : j < 6) : (parse bs).body j = sg (num (seg bs (20 + 8 * j) 8)) := by
 rcases (show j = 0 ∨ j = 1 ∨ j = 2 ∨ j = 3 ∨ j = 4 ∨ j = 5 by omega) with rfl | rfl | rfl | rfl | rfl | rfl <;> rfl
theorem wrap_sg {n : Nat} (h : n < 18446744073709551616) : IntKind.i64.wrap (n : Int) = sg n := by
 rw [IntKind.wrap_i64]; unfold sg; split <;> omega
set_option maxHeartbeats 2000000 in
theorem decode_72 (b off cap : Nat) (bs : List Nat) (w : World) (hx : Bys w w.heap.size (some ⟨b, off, none⟩) bs) (hn : bs.length = 72) (hc : 72 ≤ cap) (hcm : cap ≤ 9223372036854775807) (h0 : num (seg bs 0 4) = 72) :
  Calls Tryz.prog 125 #[.slice (some ⟨b, off, none⟩) 72 cap] w (Decoded (dec bs) w) := by
 have HN0 : Hid (∀ W c, Below w.heap.size w W → Calls Tryz.prog 150 #[.slice (some ⟨b, off, none⟩) 4 c] W fun e w' => e = .returned (.int .u64 72) ∧ W = w') := Lib.hid (fun W c hb => number_seg hx hn 0 4 72 (by omega) (by omega) h0 off c rfl W hb)
 obtain ⟨s, HS⟩ : ∃ s, Hid (crc.more 0 (bs.take 68) = s) := ⟨_, Lib.hid rfl⟩
 obtain ⟨s0, H0⟩ : ∃ s0, Hid (s % 256 = s0) := ⟨_, Lib.hid rfl⟩
 obtain ⟨s1, H1⟩ : ∃ s1, Hid (s / 256 % 256 = s1) := ⟨_, Lib.hid rfl⟩
 obtain ⟨s2, H2⟩ : ∃ s2, Hid (s / 65536 % 256 = s2) := ⟨_, Lib.hid rfl⟩
 obtain ⟨s3, H3⟩ : ∃ s3, Hid (s / 16777216 % 256 = s3) := ⟨_, Lib.hid rfl⟩
 have HCK : Hid (∀ W, Below w.heap.size w W → Calls Tryz.prog 131 #[.slice (some ⟨b, off, none⟩) 72 cap] W fun e w' => e = .returned (.agg #[.int .u8 (s0 : Int), .int .u8 (s1 : Int), .int .u8 (s2 : Int), .int .u8 (s3 : Int)]) ∧ Below W.heap.size W w') := Lib.hid (fun W hb => by rw [← H0.out, ← H1.out, ← H2.out, ← H3.out]; exact checked_any _ cap w.heap.size bs s W (hx.below hb) hb.size hn hc hcm HS.out)
 obtain ⟨b0, o0, x0, e0, hb0, X0, c0, l0⟩ := hx.at_ (j := 68) (by omega)
 obtain ⟨b1, o1, x1, e1, hb1, X1, c1, l1⟩ := hx.at_ (j := 69) (by omega)
 obtain ⟨b2, o2, x2, e2, hb2, X2, c2, l2⟩ := hx.at_ (j := 70) (by omega)
 obtain ⟨b3, o3, x3, e3, hb3, X3, c3, l3⟩ := hx.at_ (j := 71) (by omega)
 simp only [Option.some.injEq, Addr.mk.injEq, and_true] at e0 e1 e2 e3
 obtain ⟨rfl, rfl⟩ := e0
 obtain ⟨rfl, rfl⟩ := e1
 obtain ⟨rfl, rfl⟩ := e2
 obtain ⟨rfl, rfl⟩ := e3
 obtain ⟨q, HQ⟩ : ∃ q : Bool, Hid (decide (x0 = s0 ∧ x1 = s1 ∧ x2 = s2 ∧ x3 = s3) = q) := ⟨_, Lib.hid rfl⟩
 have heq : ∀ W, (Op.equalIn 10000 178 (.agg #[.int .u8 (x0 : Int), .int .u8 (x1 : Int), .int .u8 (x2 : Int), .int .u8 (x3 : Int)]) (.agg #[.int .u8 (s0 : Int), .int .u8 (s1 : Int), .int .u8 (s2 : Int), .int .u8 (s3 : Int)])).run Tryz.prog W = .ok q W := fun W => by
  rw [run_eq4 _ _ _ _ _ _ _ _ ⟨l0, l1, l2, l3⟩ ⟨by rw [← H0.out]; exact Nat.mod_lt _ (by omega), by rw [← H1.out]; exact Nat.mod_lt _ (by omega), by rw [← H2.out]; exact Nat.mod_lt _ (by omega), by rw [← H3.out]; exact Nat.mod_lt _ (by omega)⟩ W, HQ.out]
 obtain ⟨F, HF⟩ : ∃ F, Hid (parse bs = F) := ⟨_, Lib.hid rfl⟩
 have HD : Hid (dec bs = if q = true then (if right F = true then (0, F) else (2, zero)) else (10, zero)) := Lib.hid (by
  have h4 := le4_seg (s := s) X0.out X1.out X2.out X3.out
  rw [H0.out, H1.out, H2.out, H3.out] at h4
  have hq : q = true ↔ seg bs 68 4 = le4 s := by rw [h4, ← HQ.out]; simp
  unfold dec
  rw [if_neg (by omega), HS.out, HF.out]
  by_cases hs : seg bs 68 4 = le4 s
  ·rw [if_neg (by simpa using hs), if_pos (hq.2 hs)]
  ·rw [if_pos hs, if_neg (fun h => hs (hq.1 h))])
 obtain ⟨rr, HRR⟩ : ∃ rr : Int × Fr, Hid ((if right F = true then ((0 : Int), F) else (2, zero)) = rr) := ⟨_, Lib.hid rfl⟩
 rw [HD.out, HRR.out]
 clear HD HQ H0 H1 H2 H3 HS X0 X1 X2 X3 l0 l1 l2 l3
 have hbw : Below w.heap.size w (w.alloc (.cells #[.int .i64 0, .int .i64 0, .int .i64 0, .int .i64 0, .int .i64 0, .int .i64 0, .int .i64 0, .int .i64 0, .int .i64 0] 72)) := (Below.refl _ _).alloc (Nat.le_refl _) _
 have d0 := (hbw.cell (p := ⟨b, off + 68, none⟩) hb0).trans c0
 have d1 := (hbw.cell (p := ⟨b, off + 69, none⟩) hb0).trans c1
 have d2 := (hbw.cell (p := ⟨b, off + 70, none⟩) hb0).trans c2
 have d3 := (hbw.cell (p := ⟨b, off + 71, none⟩) hb0).trans c3
 have hbl : b < (w.alloc (.cells #[.int .i64 0, .int .i64 0, .int .i64 0, .int .i64 0, .int .i64 0, .int .i64 0, .int .i64 0, .int .i64 0, .int .i64 0] 72)).heap.size := Nat.lt_of_lt_of_le hb0 hbw.size
 have HBW := Lib.hid hbw.drew
 have HXW := Lib.hid (show (w.alloc (.cells #[.int .i64 0, .int .i64 0, .int .i64 0, .int .i64 0, .int .i64 0, .int .i64 0, .int .i64 0, .int .i64 0, .int .i64 0] 72)).drew.heap[w.heap.size]? = some (.cells #[.int .i64 0, .int .i64 0, .int .i64 0, .int .i64 0, .int .i64 0, .int .i64 0, .int .i64 0, .int .i64 0, .int .i64 0] 72 (0, 0)) from heap_alloc_new w _)
 have hat := fun W => run_array4 W b (off + 68) (cap - 68)
 have HX := Lib.hid hx
 have HN := Lib.hid hn
 clear hbw c0 c1 c2 c3 hx hn h0
 go_enter Tryz.func125, Tryz.ntmps125
 go_upto_region 3 with ((with_reducible refine Calls.mono (HN0.out _ _ ((Below.refl _ _).alloc (Nat.le_refl _) _)) ?_); rintro e1 w1 ⟨rfl, rfl⟩)
 go_cut [22] (fun s22 wx => s22 = .bool (!q) ∧ wx.heap[w.heap.size]? = some (.cells #[.int .i64 0, .int .i64 0, .int .i64 0, .int .i64 0, .int .i64 0, .int .i64 0, .int .i64 0, .int .i64 0, .int .i64 0] 72 (0, 0)) ∧ Below w.heap.size w wx)
 case first =>
  go_region_held3 (fun w' => w'.cell? ⟨b, off + 68, none⟩ = some (.int .u8 (x0 : Int)) ∧ w'.cell? ⟨b, off + 69, none⟩ = some (.int .u8 (x1 : Int)) ∧ w'.cell? ⟨b, off + 70, none⟩ = some (.int .u8 (x2 : Int)) ∧ w'.cell? ⟨b, off + 71, none⟩ = some (.int .u8 (x3 : Int)))
   (first | exact ⟨d0, d1, d2, d3⟩ | exact ⟨f0, f1, f2, f3⟩)
   (first
   |(go_at_call 131; refine Calls.mono (HCK.out _ HBW.out) ?_; rintro e w2 ⟨rfl, hb2⟩; have f0 := (hb2.cell (p := ⟨b, off + 68, none⟩) hbl).trans d0; have f1 := (hb2.cell (p := ⟨b, off + 69, none⟩) hbl).trans d1; have f2 := (hb2.cell (p := ⟨b, off + 70, none⟩) hbl).trans d2; have f3 := (hb2.cell (p := ⟨b, off + 71, none⟩) hbl).trans d3))
  all_goals (go_wp2_with fail; go_meet; exact ⟨rfl, box_cells hb2 (by simp) HXW.out, HBW.out.trans (hb2.mono (by simp))⟩)
 case rest =>
  obtain ⟨rfl, HXC, HBC⟩ := hcut
  have HXC' := Lib.hid HXC
  have HBC' := Lib.hid HBC
  clear d0 d1 d2 d3 heq hat HBW HXW HXC HBC
  rcases q with _ | _
  ·have hwh : World.whole wc w.heap.size 9 72 := whole_of HXC'.out rfl
   go_wp2_with (refine wpList_store_whole 72 (.tmp 2) (.tmp 23) w.heap.size 9 _ 72 (by rfl) (by rfl) hwh (by rfl) (by kernel_rfl) (by kernel_rfl) ?_)
   have hxs := setAll_self (vs := #[.int .i64 0, .int .i64 0, .int .i64 0, .int .i64 0, .int .i64 0, .int .i64 0, .int .i64 0, .int .i64 0, .int .i64 0]) hwh rfl
   have y0 : (World.setAll wc w.heap.size #[.int .i64 0, .int .i64 0, .int .i64 0, .int .i64 0, .int .i64 0, .int .i64 0, .int .i64 0, .int .i64 0, .int .i64 0]).cell? ⟨w.heap.size, 0, none⟩ = some (.int .i64 0) := (block_cell hxs 0 _ rfl).1
   have y1 : (World.setAll wc w.heap.size #[.int .i64 0, .int .i64 0, .int .i64 0, .int .i64 0, .int .i64 0, .int .i64 0, .int .i64 0, .int .i64 0, .int .i64 0]).cell? ⟨w.heap.size, 1, none⟩ = some (.int .i64 0) := (block_cell hxs 1 _ rfl).1
   have y2 : (World.setAll wc w.heap.size #[.int .i64 0, .int .i64 0, .int .i64 0, .int .i64 0, .int .i64 0, .int .i64 0, .int .i64 0, .int .i64 0, .int .i64 0]).cell? ⟨w.heap.size, 2, none⟩ = some (.int .i64 0) := (block_cell hxs 2 _ rfl).1
   have y3 : (World.setAll wc w.heap.size #[.int .i64 0, .int .i64 0, .int .i64 0, .int .i64 0, .int .i64 0, .int .i64 0, .int .i64 0, .int .i64 0, .int .i64 0]).cell? ⟨w.heap.size, 3, none⟩ = some (.int .i64 0) := (block_cell hxs 3 _ rfl).1
   have y4 : (World.setAll wc w.heap.size #[.int .i64 0, .int .i64 0, .int .i64 0, .int .i64 0, .int .i64 0, .int .i64 0, .int .i64 0, .int .i64 0, .int .i64 0]).cell? ⟨w.heap.size, 4, none⟩ = some (.int .i64 0) := (block_cell hxs 4 _ rfl).1
   have y5 : (World.setAll wc w.heap.size #[.int .i64 0, .int .i64 0, .int .i64 0, .int .i64 0, .int .i64 0, .int .i64 0, .int .i64 0, .int .i64 0, .int .i64 0]).cell? ⟨w.heap.size, 5, none⟩ = some (.int .i64 0) := (block_cell hxs 5 _ rfl).1
   have y6 : (World.setAll wc w.heap.size #[.int .i64 0, .int .i64 0, .int .i64 0, .int .i64 0, .int .i64 0, .int .i64 0, .int .i64 0, .int .i64 0, .int .i64 0]).cell? ⟨w.heap.size, 6, none⟩ = some (.int .i64 0) := (block_cell hxs 6 _ rfl).1
   have y7 : (World.setAll wc w.heap.size #[.int .i64 0, .int .i64 0, .int .i64 0, .int .i64 0, .int .i64 0, .int .i64 0, .int .i64 0, .int .i64 0, .int .i64 0]).cell? ⟨w.heap.size, 7, none⟩ = some (.int .i64 0) := (block_cell hxs 7 _ rfl).1
   have y8 : (World.setAll wc w.heap.size #[.int .i64 0, .int .i64 0, .int .i64 0, .int .i64 0, .int .i64 0, .int .i64 0, .int .i64 0, .int .i64 0, .int .i64 0]).cell? ⟨w.heap.size, 8, none⟩ = some (.int .i64 0) := (block_cell hxs 8 _ rfl).1
   exact bodyPost_ret (v := .tuple #[.agg #[.int .i64 0, .int .i64 0, .int .i64 0, .int .i64 0, .int .i64 0, .int .i64 0, .int .i64 0, .int .i64 0, .int .i64 0], .int .i64 10]) (by simp [results, Tryz.results125, go_sem, y0, y1, y2, y3, y4, y5, y6, y7, y8]) rfl ⟨rfl, setAll_below HBC'.out (Nat.le_refl _)⟩
  ·obtain ⟨v4, HV4⟩ : ∃ v, Hid (num (seg bs 4 4) = v) := ⟨_, Lib.hid rfl⟩
   obtain ⟨v8, HV8⟩ : ∃ v, Hid (num (seg bs 8 8) = v) := ⟨_, Lib.hid rfl⟩
   obtain ⟨vk, HVK⟩ : ∃ v, Hid (num (seg bs 16 4) = v) := ⟨_, Lib.hid rfl⟩
   obtain ⟨z8, HZ8⟩ : ∃ z, Hid (sg v8 = z) := ⟨_, Lib.hid rfl⟩
   have h4 : v4 < 4294967296 := by
    have := num_lt (seg bs 4 4) (seg_lt HX.out.lt 4 4); rw [seg_len _ _ _ (by rw [HN.out]; omega), HV4.out] at this; simpa using this
   have h8 : v8 < 18446744073709551616 := by
    have := num_lt (seg bs 8 8) (seg_lt HX.out.lt 8 8); rw [seg_len _ _ _ (by rw [HN.out]; omega), HV8.out] at this; simpa using this
   have hk : vk < 4294967296 := by
    have := num_lt (seg bs 16 4) (seg_lt HX.out.lt 16 4); rw [seg_len _ _ _ (by rw [HN.out]; omega), HVK.out] at this; simpa using this
   have HN4 : Hid (∀ W c, Below w.heap.size w W → Calls Tryz.prog 150 #[.slice (some ⟨b, off + 4, none⟩) 4 c] W fun e w' => e = .returned (.int .u64 (v4 : Int)) ∧ W = w') := Lib.hid (fun W c hb => number_seg HX.out HN.out 4 4 v4 (by omega) (by omega) HV4.out _ c rfl W hb)
   have HN8 : Hid (∀ W c, Below w.heap.size w W → Calls Tryz.prog 150 #[.slice (some ⟨b, off + 8, none⟩) 8 c] W fun e w' => e = .returned (.int .u64 (v8 : Int)) ∧ W = w') := Lib.hid (fun W c hb => number_seg HX.out HN.out 8 8 v8 (by omega) (by omega) HV8.out _ c rfl W hb)
   have HNK : Hid (∀ W c, Below w.heap.size w W → Calls Tryz.prog 150 #[.slice (some ⟨b, off + 16, none⟩) 4 c] W fun e w' => e = .returned (.int .u64 (vk : Int)) ∧ W = w') := Lib.hid (fun W c hb => number_seg HX.out HN.out 16 4 vk (by omega) (by omega) HVK.out _ c rfl W hb)
   have hw4 : IntKind.i64.wrap (v4 : Int) = (v4 : Int) := by rw [wrap_sg (by omega)]; unfold sg; rw [if_pos (by omega)]
   have hwk : IntKind.i64.wrap (vk : Int) = (vk : Int) := by rw [wrap_sg (by omega)]; unfold sg; rw [if_pos (by omega)]
   have hw8 : IntKind.i64.wrap (v8 : Int) = z8 := by rw [wrap_sg h8, HZ8.out]
   have HP0 : Hid (F.e = (v4 : Int) ∧ F.l = z8 ∧ F.k = (vk : Int)) := Lib.hid (by
    rw [← HF.out]
    exact ⟨congrArg (fun n : Nat => (n : Int)) HV4.out, by show sg (num (seg bs 8 8)) = z8; rw [HV8.out, HZ8.out], congrArg (fun n : Nat => (n : Int)) HVK.out⟩)
   have HBC1 : Hid (∀ o, Below w.heap.size w (wc.alloc o)) := Lib.hid (fun o => HBC'.out.alloc HBC'.out.size o)
   have HBC3 : Hid (w.heap.size < wc.heap.size) := Lib.hid (cell_block (block_cell HXC'.out 0 (.int .i64 0) rfl).1)
   clear h4 h8 hk
   simp only [Bool.not_true]
   have i8 : (8 : Int) ≤ (cap : Int) := by omega
   have i16 : (16 : Int) ≤ (cap : Int) := by omega
   have i20 : (20 : Int) ≤ (cap : Int) := by omega
   have n4 : ¬ cap = 4 := by omega
   have n8 : ¬ cap = 8 := by omega
   have n16 : ¬ cap = 16 := by omega
   go_upto_region 5 with fail
   go_cut [4] (fun s4 wx => ∃ g, s4 = .pointer (some ⟨g, 0, none⟩) ∧ wx.heap[g]? = some (.cells #[.int .i64 (v4 : Int), .int .i64 z8, .int .i64 (vk : Int), .int .i64 0, .int .i64 0, .int .i64 0, .int .i64 0, .int .i64 0, .int .i64 0] 72 (0, 0)) ∧ wx.heap[w.heap.size]? = some (.cells #[.int .i64 0, .int .i64 0, .int .i64 0, .int .i64 0, .int .i64 0, .int .i64 0, .int .i64 0, .int .i64 0, .int .i64 0] 72 (0, 0)) ∧ w.heap.size < g ∧ Below w.heap.size w wx)
   case first =>
    go_region_held3 (fun _ => True) (trivial) (first
     |(go_at_call 150; with_reducible (show Calls _ _ #[Value.slice (some ⟨b, off + 4, none⟩) _ _] _ _); refine Calls.mono (HN4.out _ _ (by first | exact HBC'.out.drew | exact (HBC1.out _).drew)) ?_; rintro e w2 ⟨rfl, rfl⟩)
     |(go_at_call 150; with_reducible (show Calls _ _ #[Value.slice (some ⟨b, off + 8, none⟩) _ _] _ _); refine Calls.mono (HN8.out _ _ (by first | exact HBC'.out.drew | exact (HBC1.out _).drew)) ?_; rintro e w2 ⟨rfl, rfl⟩)
     |(go_at_call 150; with_reducible (show Calls _ _ #[Value.slice (some ⟨b, off + 16, none⟩) _ _] _ _); refine Calls.mono (HNK.out _ _ (by first | exact HBC'.out.drew | exact (HBC1.out _).drew)) ?_; rintro e w2 ⟨rfl, rfl⟩))
    all_goals (go_wp2_with fail; go_meet; exact ⟨wc.heap.size, rfl, heap_alloc_new wc _, (Below.heap_alloc wc _ _ (HBC3.out)).trans HXC'.out, HBC3.out, (HBC1.out _).drew⟩)
   case rest =>
    obtain ⟨g, rfl, HG, HXD, hgg, HBD⟩ := hcut
    have HG' : Hid (wc.heap[g]? = some (.cells (part F 0).toArray 72 (0, 0))) := Lib.hid (by
     obtain ⟨e1, e2, e3⟩ := HP0.out
     rw [part_zero, e1, e2, e3]; exact HG)
    have HXD' := Lib.hid HXD
    have HBD' := Lib.hid HBD
    clear HG HXD HBD hw4 hw8 hwk i8 i16 i20 n4 n8 n16
    go_wp2
    go_loopw [5, 37] (fun _ i wr => ∃ j : Nat, j ≤ 6 ∧ i = .int .i64 j ∧ Hid (wr.heap[g]? = some (.cells (part F j).toArray 72 (0, 0))) ∧ Hid (wr.heap[w.heap.size]? = some (.cells #[.int .i64 0, .int .i64 0, .int .i64 0, .int .i64 0, .int .i64 0, .int .i64 0, .int .i64 0, .int .i64 0, .int .i64 0] 72 (0, 0))) ∧ Hid (Below w.heap.size w wr)) (fun _ i _ => 6 - (intOf i).toNat)
    case atStart => exact ⟨0, by omega, rfl, HG', HXD', HBD'⟩
    case round =>
     obtain ⟨j, hj, rfl, HGr, HXr, HBr⟩ := hrel
     by_cases hlt : j < 6
     ·obtain ⟨o, HO⟩ : ∃ o, Hid (off + (20 + 8 * j) = o) := ⟨_, Lib.hid rfl⟩
      obtain ⟨c2, HC2⟩ : ∃ c2, Hid (cap - (20 + 8 * j) = c2) := ⟨_, Lib.hid rfl⟩
      obtain ⟨v, HV⟩ : ∃ v, Hid (num (seg bs (20 + 8 * j) 8) = v) := ⟨_, Lib.hid rfl⟩
      obtain ⟨z, HZ⟩ : ∃ z, Hid (sg v = z) := ⟨_, Lib.hid rfl⟩
      have hv : v < 18446744073709551616 := by
       have := num_lt (seg bs (20 + 8 * j) 8) (seg_lt HX.out.lt _ 8); rw [seg_len _ _ _ (by rw [HN.out]; omega), HV.out] at this; simpa using this
      have hwz : IntKind.i64.wrap (v : Int) = z := by rw [wrap_sg hv, HZ.out]
      have HPL : Hid (∀ (z : Int), z = (j : Int) → Calls Tryz.prog 130 #[.slice (some ⟨b, off, none⟩) 72 cap, .int .i64 z] wr fun e w' => e = .returned (.slice (some ⟨b, o, none⟩) 8 c2) ∧ wr = w') := Lib.hid (fun z hz => place_is b off j cap o c2 z wr hz HO.out HC2.out hlt hc hcm)
      have HNB : Hid (Calls Tryz.prog 150 #[.slice (some ⟨b, o, none⟩) 8 c2] wr fun e w' => e = .returned (.int .u64 (v : Int)) ∧ wr = w') := Lib.hid (number_seg HX.out HN.out (20 + 8 * j) 8 v (by omega) (by omega) HV.out o c2 HO.out wr HBr.out)
      have k0 : wr.cell? ⟨g, 3 + j, none⟩ = some (.int .i64 0) := (block_cell HGr.out (3 + j) (.int .i64 0) (by
       rcases (show j = 0 ∨ j = 1 ∨ j = 2 ∨ j = 3 ∨ j = 4 ∨ j = 5 by omega) with rfl | rfl | rfl | rfl | rfl | rfl <;> rfl)).1
      have kf : wr.frozen? ⟨g, 3 + j, none⟩ = false := frozen_of_row wr g (3 + j) _ _ HGr.out
      have HNX : Hid ((wr.setCell ⟨g, 3 + j, none⟩ (.int .i64 z)).heap[g]? = some (.cells (part F (j + 1)).toArray 72 (0, 0))) := Lib.hid (by
       have := heap_setCell_same wr g (3 + j) _ _ (.int .i64 z) HGr.out
       rw [this]
       congr 2
       have hb : F.body j = z := by rw [← HF.out, body_parse bs j hlt, HV.out, HZ.out]
       rw [← part_set F j hlt, hb]
       simp)
      have HXN : Hid ((wr.setCell ⟨g, 3 + j, none⟩ (.int .i64 z)).heap[w.heap.size]? = some (.cells #[.int .i64 0, .int .i64 0, .int .i64 0, .int .i64 0, .int .i64 0, .int .i64 0, .int .i64 0, .int .i64 0, .int .i64 0] 72 (0, 0))) := Lib.hid ((Below.heap_setCell _ _ _ _ (by simp; omega)).trans HXr.out)
      have HBN : Hid (Below w.heap.size w (wr.setCell ⟨g, 3 + j, none⟩ (.int .i64 z))) := Lib.hid (HBr.out.setCell (p := ⟨g, 3 + j, none⟩) (by simp; omega) _)
      clear hv
      go_wp2_with (first
       |((with_reducible refine Calls.mono (HPL.out _ (by rfl)) ?_); rintro e7 w7 ⟨rfl, rfl⟩)
       |((with_reducible refine Calls.mono HNB.out ?_); rintro e8 w8 ⟨rfl, rfl⟩))
      go_roundw
      case rel => exact ⟨j + 1, by omega, by go_num, HNX, HXN, HBN⟩
      case measure => first | (simp [intOf]; done) | (simp [intOf]; omega)
     ·obtain rfl : j = 6 := by omega
      rw [part_all] at HGr
      obtain ⟨e, l, k, b0, b1, b2, b3, b4, b5⟩ := F
      have FF : Hid ((⟨e, l, k, b0, b1, b2, b3, b4, b5⟩ : Fr).fine) := Lib.hid (by rw [← HF.out]; exact parse_fine HX.out.lt)
      obtain ⟨r, HR⟩ : ∃ r, Hid (right ⟨e, l, k, b0, b1, b2, b3, b4, b5⟩ = r) := ⟨_, Lib.hid rfl⟩
      have HRT : Hid (Calls Tryz.prog 128 #[.agg #[.int .i64 e, .int .i64 l, .int .i64 k, .int .i64 b0, .int .i64 b1, .int .i64 b2, .int .i64 b3, .int .i64 b4, .int .i64 b5]] wr fun e w' => e = .returned (.bool r) ∧ Below wr.heap.size wr w') := Lib.hid (right_is ⟨e, l, k, b0, b1, b2, b3, b4, b5⟩ r wr HR.out)
      have HGr' : Hid (wr.heap[g]? = some (.cells #[.int .i64 e, .int .i64 l, .int .i64 k, .int .i64 b0, .int .i64 b1, .int .i64 b2, .int .i64 b3, .int .i64 b4, .int .i64 b5] 72 (0, 0))) := HGr
      have k0 : wr.cell? ⟨g, 0, none⟩ = some (.int .i64 e) := (block_cell HGr'.out 0 _ rfl).1
      have k1 : wr.cell? ⟨g, 1, none⟩ = some (.int .i64 l) := (block_cell HGr'.out 1 _ rfl).1
      have k2 : wr.cell? ⟨g, 2, none⟩ = some (.int .i64 k) := (block_cell HGr'.out 2 _ rfl).1
      have k3 : wr.cell? ⟨g, 3, none⟩ = some (.int .i64 b0) := (block_cell HGr'.out 3 _ rfl).1
      have k4 : wr.cell? ⟨g, 4, none⟩ = some (.int .i64 b1) := (block_cell HGr'.out 4 _ rfl).1
      have k5 : wr.cell? ⟨g, 5, none⟩ = some (.int .i64 b2) := (block_cell HGr'.out 5 _ rfl).1
      have k6 : wr.cell? ⟨g, 6, none⟩ = some (.int .i64 b3) := (block_cell HGr'.out 6 _ rfl).1
      have k7 : wr.cell? ⟨g, 7, none⟩ = some (.int .i64 b4) := (block_cell HGr'.out 7 _ rfl).1
      have k8 : wr.cell? ⟨g, 8, none⟩ = some (.int .i64 b5) := (block_cell HGr'.out 8 _ rfl).1
      have hgl : g < wr.heap.size := cell_block k0
      rw [HR.out] at HRR
      rcases r with _ | _
      ·go_wp2_with (first
        |(refine wpList_store_whole 72 (.tmp 2) (.tmp 52) w.heap.size 9 _ 72 (by rfl) (by rfl) hwh9 (by rfl) (by kernel_rfl) (by kernel_rfl) ?_)
        |((with_reducible refine Calls.mono HRT.out ?_); rintro e9 w9 ⟨rfl, hb9⟩; have hwh9 : World.whole w9 w.heap.size 9 72 := whole_of ((hb9.block w.heap.size (by omega)).trans HXr.out) rfl; have HB9 := Lib.hid (HBr.out.trans (hb9.mono HBr.out.size)); clear hb9))
       have hxs := setAll_self (vs := #[.int .i64 0, .int .i64 0, .int .i64 0, .int .i64 0, .int .i64 0, .int .i64 0, .int .i64 0, .int .i64 0, .int .i64 0]) hwh9 rfl
       have y0 : (World.setAll w9 w.heap.size #[.int .i64 0, .int .i64 0, .int .i64 0, .int .i64 0, .int .i64 0, .int .i64 0, .int .i64 0, .int .i64 0, .int .i64 0]).cell? ⟨w.heap.size, 0, none⟩ = some (.int .i64 0) := (block_cell hxs 0 _ rfl).1
       have y1 : (World.setAll w9 w.heap.size #[.int .i64 0, .int .i64 0, .int .i64 0, .int .i64 0, .int .i64 0, .int .i64 0, .int .i64 0, .int .i64 0, .int .i64 0]).cell? ⟨w.heap.size, 1, none⟩ = some (.int .i64 0) := (block_cell hxs 1 _ rfl).1
       have y2 : (World.setAll w9 w.heap.size #[.int .i64 0, .int .i64 0, .int .i64 0, .int .i64 0, .int .i64 0, .int .i64 0, .int .i64 0, .int .i64 0, .int .i64 0]).cell? ⟨w.heap.size, 2, none⟩ = some (.int .i64 0) := (block_cell hxs 2 _ rfl).1
       have y3 : (World.setAll w9 w.heap.size #[.int .i64 0, .int .i64 0, .int .i64 0, .int .i64 0, .int .i64 0, .int .i64 0, .int .i64 0, .int .i64 0, .int .i64 0]).cell? ⟨w.heap.size, 3, none⟩ = some (.int .i64 0) := (block_cell hxs 3 _ rfl).1
       have y4 : (World.setAll w9 w.heap.size #[.int .i64 0, .int .i64 0, .int .i64 0, .int .i64 0, .int .i64 0, .int .i64 0, .int .i64 0, .int .i64 0, .int .i64 0]).cell? ⟨w.heap.size, 4, none⟩ = some (.int .i64 0) := (block_cell hxs 4 _ rfl).1
       have y5 : (World.setAll w9 w.heap.size #[.int .i64 0, .int .i64 0, .int .i64 0, .int .i64 0, .int .i64 0, .int .i64 0, .int .i64 0, .int .i64 0, .int .i64 0]).cell? ⟨w.heap.size, 5, none⟩ = some (.int .i64 0) := (block_cell hxs 5 _ rfl).1
       have y6 : (World.setAll w9 w.heap.size #[.int .i64 0, .int .i64 0, .int .i64 0, .int .i64 0, .int .i64 0, .int .i64 0, .int .i64 0, .int .i64 0, .int .i64 0]).cell? ⟨w.heap.size, 6, none⟩ = some (.int .i64 0) := (block_cell hxs 6 _ rfl).1
       have y7 : (World.setAll w9 w.heap.size #[.int .i64 0, .int .i64 0, .int .i64 0, .int .i64 0, .int .i64 0, .int .i64 0, .int .i64 0, .int .i64 0, .int .i64 0]).cell? ⟨w.heap.size, 7, none⟩ = some (.int .i64 0) := (block_cell hxs 7 _ rfl).1
       have y8 : (World.setAll w9 w.heap.size #[.int .i64 0, .int .i64 0, .int .i64 0, .int .i64 0, .int .i64 0, .int .i64 0, .int .i64 0, .int .i64 0, .int .i64 0]).cell? ⟨w.heap.size, 8, none⟩ = some (.int .i64 0) := (block_cell hxs 8 _ rfl).1
       exact bodyPost_ret (v := .tuple #[.agg #[.int .i64 0, .int .i64 0, .int .i64 0, .int .i64 0, .int .i64 0, .int .i64 0, .int .i64 0, .int .i64 0, .int .i64 0], .int .i64 2]) (by simp [results, Tryz.results125, go_sem, y0, y1, y2, y3, y4, y5, y6, y7, y8]) rfl ⟨by rw [← HRR.out]; rfl, setAll_below HB9.out (Nat.le_refl _)⟩
      ·go_wp2_with (first
        |(refine wpList_store_whole 72 (.tmp 2) (.tmp 53) w.heap.size 9 _ 72 (by rfl) (by rfl) hwh9 (by rfl) (by kernel_rfl) (by kernel_rfl) ?_)
        |((with_reducible refine Calls.mono HRT.out ?_); rintro e9 w9 ⟨rfl, hb9⟩; have hwh9 : World.whole w9 w.heap.size 9 72 := whole_of ((hb9.block w.heap.size (by omega)).trans HXr.out) rfl; have HB9 := Lib.hid (HBr.out.trans (hb9.mono HBr.out.size)); have hbl9 := (hb9.block g hgl).trans HGr'.out; have m0 : w9.cell? ⟨g, 0, none⟩ = some (.int .i64 e) := (block_cell hbl9 0 _ rfl).1; have m1 : w9.cell? ⟨g, 1, none⟩ = some (.int .i64 l) := (block_cell hbl9 1 _ rfl).1; have m2 : w9.cell? ⟨g, 2, none⟩ = some (.int .i64 k) := (block_cell hbl9 2 _ rfl).1; have m3 : w9.cell? ⟨g, 3, none⟩ = some (.int .i64 b0) := (block_cell hbl9 3 _ rfl).1; have m4 : w9.cell? ⟨g, 4, none⟩ = some (.int .i64 b1) := (block_cell hbl9 4 _ rfl).1; have m5 : w9.cell? ⟨g, 5, none⟩ = some (.int .i64 b2) := (block_cell hbl9 5 _ rfl).1; have m6 : w9.cell? ⟨g, 6, none⟩ = some (.int .i64 b3) := (block_cell hbl9 6 _ rfl).1; have m7 : w9.cell? ⟨g, 7, none⟩ = some (.int .i64 b4) := (block_cell hbl9 7 _ rfl).1; have m8 : w9.cell? ⟨g, 8, none⟩ = some (.int .i64 b5) := (block_cell hbl9 8 _ rfl).1; clear hb9 hbl9))
       have hxs := setAll_self (vs := #[.int .i64 e, .int .i64 l, .int .i64 k, .int .i64 b0, .int .i64 b1, .int .i64 b2, .int .i64 b3, .int .i64 b4, .int .i64 b5]) hwh9 rfl
       have y0 : (World.setAll w9 w.heap.size #[.int .i64 e, .int .i64 l, .int .i64 k, .int .i64 b0, .int .i64 b1, .int .i64 b2, .int .i64 b3, .int .i64 b4, .int .i64 b5]).cell? ⟨w.heap.size, 0, none⟩ = some (.int .i64 e) := (block_cell hxs 0 _ rfl).1
       have y1 : (World.setAll w9 w.heap.size #[.int .i64 e, .int .i64 l, .int .i64 k, .int .i64 b0, .int .i64 b1, .int .i64 b2, .int .i64 b3, .int .i64 b4, .int .i64 b5]).cell? ⟨w.heap.size, 1, none⟩ = some (.int .i64 l) := (block_cell hxs 1 _ rfl).1
       have y2 : (World.setAll w9 w.heap.size #[.int .i64 e, .int .i64 l, .int .i64 k, .int .i64 b0, .int .i64 b1, .int .i64 b2, .int .i64 b3, .int .i64 b4, .int .i64 b5]).cell? ⟨w.heap.size, 2, none⟩ = some (.int .i64 k) := (block_cell hxs 2 _ rfl).1
       have y3 : (World.setAll w9 w.heap.size #[.int .i64 e, .int .i64 l, .int .i64 k, .int .i64 b0, .int .i64 b1, .int .i64 b2, .int .i64 b3, .int .i64 b4, .int .i64 b5]).cell? ⟨w.heap.size, 3, none⟩ = some (.int .i64 b0) := (block_cell hxs 3 _ rfl).1
       have y4 : (World.setAll w9 w.heap.size #[.int .i64 e, .int .i64 l, .int .i64 k, .int .i64 b0, .int .i64 b1, .int .i64 b2, .int .i64 b3, .int .i64 b4, .int .i64 b5]).cell? ⟨w.heap.size, 4, none⟩ = some (.int .i64 b1) := (block_cell hxs 4 _ rfl).1
       have y5 : (World.setAll w9 w.heap.size #[.int .i64 e, .int .i64 l, .int .i64 k, .int .i64 b0, .int .i64 b1, .int .i64 b2, .int .i64 b3, .int .i64 b4, .int .i64 b5]).cell? ⟨w.heap.size, 5, none⟩ = some (.int .i64 b2) := (block_cell hxs 5 _ rfl).1
       have y6 : (World.setAll w9 w.heap.size #[.int .i64 e, .int .i64 l, .int .i64 k, .int .i64 b0, .int .i64 b1, .int .i64 b2, .int .i64 b3, .int .i64 b4, .int .i64 b5]).cell? ⟨w.heap.size, 6, none⟩ = some (.int .i64 b3) := (block_cell hxs 6 _ rfl).1
       have y7 : (World.setAll w9 w.heap.size #[.int .i64 e, .int .i64 l, .int .i64 k, .int .i64 b0, .int .i64 b1, .int .i64 b2, .int .i64 b3, .int .i64 b4, .int .i64 b5]).cell? ⟨w.heap.size, 7, none⟩ = some (.int .i64 b4) := (block_cell hxs 7 _ rfl).1
       have y8 : (World.setAll w9 w.heap.size #[.int .i64 e, .int .i64 l, .int .i64 k, .int .i64 b0, .int .i64 b1, .int .i64 b2, .int .i64 b3, .int .i64 b4, .int .i64 b5]).cell? ⟨w.heap.size, 8, none⟩ = some (.int .i64 b5) := (block_cell hxs 8 _ rfl).1
       exact bodyPost_ret (v := .tuple #[.agg #[.int .i64 e, .int .i64 l, .int .i64 k, .int .i64 b0, .int .i64 b1, .int .i64 b2, .int .i64 b3, .int .i64 b4, .int .i64 b5], .int .i64 0]) (by simp [results, Tryz.results125, go_sem, y0, y1, y2, y3, y4, y5, y6, y7, y8]) rfl ⟨by rw [← HRR.out]; rfl, setAll_below HB9.out (Nat.le_refl _)⟩
end Go.Proofs.YtepfmpmphcndjaaGreatDoor.frame
end
section
namespace Go.Proofs.YtepfmpmphcndjaaGreatDoor.frame
set_option maxRecDepth 20000
open Go.RowKit Go.Proofs.YtepfmpmphcndjaaGreatDoor
theorem decode_head (b off cap v : Nat) (bs : List Nat) (w : World) (hx : Bys w w.heap.size (some ⟨b, off, none⟩) bs) (hn : bs.length = 72) (hc : 72 ≤ cap) (hcm : cap ≤ 9223372036854775807) (h0 : num (seg bs 0 4) = v) (hv : v ≠ 72) :
  Calls Tryz.prog 125 #[.slice (some ⟨b, off, none⟩) 72 cap] w (Decoded (dec bs) w) := by
 have hd : dec bs = (2, zero) := by unfold dec; rw [if_pos (.inr (by omega))]
 rw [hd]
 have HN0 : Hid (∀ W c, Below w.heap.size w W → Calls Tryz.prog 150 #[.slice (some ⟨b, off, none⟩) 4 c] W fun e w' => e = .returned (.int .u64 (v : Int)) ∧ W = w') := Lib.hid (fun W c hb => number_seg hx hn 0 4 v (by omega) (by omega) h0 off c rfl W hb)
 have ht : ((v : Int) != 72) = true := by simp; omega
 clear hd hn h0 hv hx
 go_enter Tryz.func125, Tryz.ntmps125
 go_wp2_with ((with_reducible refine Calls.mono (HN0.out _ _ ((Below.refl _ _).alloc (Nat.le_refl _) _)) ?_); rintro e1 w1 ⟨rfl, rfl⟩)
 exact bodyPost_ret (v := .tuple #[.agg #[.int .i64 0, .int .i64 0, .int .i64 0, .int .i64 0, .int .i64 0, .int .i64 0, .int .i64 0, .int .i64 0, .int .i64 0], .int .i64 2]) (by simp [results, Tryz.results125, go_sem]) rfl ⟨rfl, (Below.refl _ _).alloc (Nat.le_refl _) _⟩
theorem decode_any (A : Option Addr) (n cap : Nat) (bs : List Nat) (w : World) (hx : Bys w w.heap.size A bs) (hn : bs.length = n) (hc : n ≤ cap) (hcm : cap ≤ 9223372036854775807) :
  Calls Tryz.prog 125 #[.slice A n cap] w (Decoded (dec bs) w) := by
 by_cases h : n = 72
 ·subst h
  obtain ⟨b, off, c, rfl, _⟩ := hx.at_ (j := 0) (by omega)
  by_cases h0 : num (seg bs 0 4) = 72
  ·exact decode_72 b off cap bs w hx hn hc hcm h0
  ·exact decode_head b off cap _ bs w hx hn hc hcm rfl h0
 ·exact decode_short A n cap bs w hn h
theorem decode_is (A : Option Addr) (n cap B : Nat) (bs : List Nat) (d : Int) (f : Fr) (w : World) (hx : Bys w B A bs) (hB : B ≤ w.heap.size) (hn : bs.length = n) (hc : n ≤ cap) (hcm : cap ≤ 9223372036854775807) (h : dec bs = (d, f)) :
  Calls Tryz.prog 125 #[.slice A n cap] w fun e w' => e = .returned (.tuple #[.agg (fc f), .int .i64 d]) ∧ Below w.heap.size w w' := by
 have := decode_any A n cap bs w (hx.more hB) hn hc hcm
 rw [h] at this
 exact this
theorem encode_yes_of {e l k b0 b1 b2 b3 b4 b5 : Int} {f : Fr} (h : (⟨e, l, k, b0, b1, b2, b3, b4, b5⟩ : Fr) = f) (hf : f.fine) (hr : right f = true) (W : World) : Calls Tryz.prog 106 #[.agg #[.int .i64 e, .int .i64 l, .int .i64 k, .int .i64 b0, .int .i64 b1, .int .i64 b2, .int .i64 b3, .int .i64 b4, .int .i64 b5]] W (Encoded f W) := by
 subst h; exact encode_yes ⟨e, l, k, b0, b1, b2, b3, b4, b5⟩ hf W hr
theorem right_of {e l k b0 b1 b2 b3 b4 b5 : Int} {f : Fr} {r : Bool} (h : (⟨e, l, k, b0, b1, b2, b3, b4, b5⟩ : Fr) = f) (hr : right f = r) (W : World) : Calls Tryz.prog 128 #[.agg #[.int .i64 e, .int .i64 l, .int .i64 k, .int .i64 b0, .int .i64 b1, .int .i64 b2, .int .i64 b3, .int .i64 b4, .int .i64 b5]] W fun e w' => e = .returned (.bool r) ∧ Below W.heap.size W w' := by
 subst h; exact right_is ⟨e, l, k, b0, b1, b2, b3, b4, b5⟩ r W hr
theorem decode_of {A : Option Addr} {n cap B : Nat} {bs : List Nat} {d : Int} {e l k b0 b1 b2 b3 b4 b5 : Int} (W : World) (hx : Bys W B A bs) (hB : B ≤ W.heap.size) (hn : bs.length = n) (hc : n ≤ cap) (hcm : cap ≤ 9223372036854775807) (h : dec bs = (d, ⟨e, l, k, b0, b1, b2, b3, b4, b5⟩)) :
  Calls Tryz.prog 125 #[.slice A n cap] W fun e' w' => e' = .returned (.tuple #[.agg #[.int .i64 e, .int .i64 l, .int .i64 k, .int .i64 b0, .int .i64 b1, .int .i64 b2, .int .i64 b3, .int .i64 b4, .int .i64 b5], .int .i64 d]) ∧ Below W.heap.size W w' := decode_is A n cap B bs d ⟨e, l, k, b0, b1, b2, b3, b4, b5⟩ W hx hB hn hc hcm h
theorem eq_of {e l k b0 b1 b2 b3 b4 b5 e' l' k' b0' b1' b2' b3' b4' b5' : Int} {f g : Fr} {r : Bool} (h : (⟨e, l, k, b0, b1, b2, b3, b4, b5⟩ : Fr) = f) (h' : (⟨e', l', k', b0', b1', b2', b3', b4', b5'⟩ : Fr) = g) (hf : f.fine) (hg : g.fine) (hr : decide (f = g) = r) (W : World) :
  (Op.equalIn 10000 72 (.agg #[.int .i64 e, .int .i64 l, .int .i64 k, .int .i64 b0, .int .i64 b1, .int .i64 b2, .int .i64 b3, .int .i64 b4, .int .i64 b5]) (.agg #[.int .i64 e', .int .i64 l', .int .i64 k', .int .i64 b0', .int .i64 b1', .int .i64 b2', .int .i64 b3', .int .i64 b4', .int .i64 b5'])).run Tryz.prog W = .ok r W := by
 subst h h'
 rw [← hr]
 exact run_eq9 ⟨e, l, k, b0, b1, b2, b3, b4, b5⟩ ⟨e', l', k', b0', b1', b2', b3', b4', b5'⟩ hf hg W
end Go.Proofs.YtepfmpmphcndjaaGreatDoor.frame
end
section
namespace Go.Proofs.YtepfmpmphcndjaaGreatDoor
set_option maxRecDepth 20000
open Go.RowKit
theorem leaf_frame : Leaf rdFrame := fun _ _ cs f ⟨h, _⟩ c hc => by
 rw [h] at hc
 simp [frame.fc] at hc
 rcases hc with rfl | rfl | rfl | rfl | rfl | rfl | rfl | rfl | rfl <;> rfl
abbrev Frs (w : World) (B : Nat) (A : Option Addr) (l : List frame.Fr) : Prop := Elems rdFrame 9 w (Lt B) A l
theorem Frs.below {w w' : World} {B : Nat} {A : Option Addr} {l : List frame.Fr} (h : Frs w B A l) (hb : Below B w w') : Frs w' B A l := Elems.keep keeps_frame h (below_alike hb) (fun _ h => h)
theorem Frs.more {w : World} {B B' : Nat} {A : Option Addr} {l : List frame.Fr} (h : Frs w B A l) (hb : B ≤ B') : Frs w B' A l := Elems.keep keeps_frame h (alike_refl _ _) (fun _ h => Nat.lt_of_lt_of_le h hb)
theorem Frs.nil (w : World) (B : Nat) (A : Option Addr) : Frs w B A [] := fun h => absurd h (by simp)
theorem Frs.drewN {w : World} {B : Nat} {A : Option Addr} {l : List frame.Fr} (h : Frs w B A l) (m : Nat) : Frs (w.drewN m) B A l := h
theorem Frs.at_ {w : World} {B : Nat} {A : Option Addr} {l : List frame.Fr} (h : Frs w B A l) {j : Nat} (hj : j < l.length) :
  ∃ b off e n k b0 b1 b2 b3 b4 b5, A = some ⟨b, off, none⟩ ∧ b < B ∧ Hid (l[j]? = some ⟨e, n, k, b0, b1, b2, b3, b4, b5⟩) ∧
   w.cell? ⟨b, off + j * 9, none⟩ = some (.int .i64 e) ∧ w.cell? ⟨b, off + j * 9 + 1, none⟩ = some (.int .i64 n) ∧ w.cell? ⟨b, off + j * 9 + 2, none⟩ = some (.int .i64 k) ∧
   w.cell? ⟨b, off + j * 9 + 3, none⟩ = some (.int .i64 b0) ∧ w.cell? ⟨b, off + j * 9 + 4, none⟩ = some (.int .i64 b1) ∧ w.cell? ⟨b, off + j * 9 + 5, none⟩ = some (.int .i64 b2) ∧
   w.cell? ⟨b, off + j * 9 + 6, none⟩ = some (.int .i64 b3) ∧ w.cell? ⟨b, off + j * 9 + 7, none⟩ = some (.int .i64 b4) ∧ w.cell? ⟨b, off + j * 9 + 8, none⟩ = some (.int .i64 b5) ∧
   Hid ((⟨e, n, k, b0, b1, b2, b3, b4, b5⟩ : frame.Fr).fine) := by
 obtain ⟨b, off, e, hb, hc⟩ := h (by omega)
 obtain ⟨cs, hl, hcs, rfl, hf⟩ := hc j l[j] (List.getElem?_eq_getElem hj)
 exact ⟨b, off, _, _, _, _, _, _, _, _, _, e, hb, Lib.hid (List.getElem?_eq_getElem hj), hcs 0 _ rfl, hcs 1 _ rfl, hcs 2 _ rfl, hcs 3 _ rfl, hcs 4 _ rfl, hcs 5 _ rfl, hcs 6 _ rfl, hcs 7 _ rfl, hcs 8 _ rfl, Lib.hid hf⟩
theorem Frs.fine {w : World} {B : Nat} {A : Option Addr} {l : List frame.Fr} (h : Frs w B A l) : ∀ f ∈ l, f.fine := by
 intro f hf
 obtain ⟨j, hj, rfl⟩ := List.getElem_of_mem hf
 obtain ⟨b, off, e, hb, hc⟩ := h (by omega)
 obtain ⟨cs, hl, hcs, _, hf⟩ := hc j l[j] (List.getElem?_eq_getElem hj)
 exact hf
theorem Frs.take {w : World} {B : Nat} {A : Option Addr} {l : List frame.Fr} (h : Frs w B A l) (m : Nat) : Frs w B A (l.take m) := fun h0 => by
 obtain ⟨b, off, e, hb, hc⟩ := h (by rw [List.length_take] at h0; omega)
 refine ⟨b, off, e, hb, fun j x hj => hc j x ?_⟩
 rw [List.getElem?_take] at hj
 split at hj
 ·exact hj
 ·cases hj
abbrev OwnFrs (w : World) (base : Nat) (A : Option Addr) (n c : Nat) (l : List frame.Fr) : Prop := OwnElems rdFrame 9 w base 72 (fun _ => False) A n c l
theorem ownElems_later {α : Type} {R : Rd α} {size : Nat} {w w' : World} {base : Nat} {e : TypeId} {A : Option Addr} {n c : Nat} {l : List α} (hR : Keeps R) (h : OwnElems R size w base e (fun _ => False) A n c l) (hb : Below w.heap.size w w') : OwnElems R size w' base e (fun _ => False) A n c l := by
 obtain ⟨css, h1, h2, h3⟩ := h
 refine ⟨css, ⟨h1.1, ?_⟩, h2.keep hR (fun b o hb' => False.elim hb') (fun _ h => h), h3⟩
 rcases h1.2 with h0 | ⟨g, cap, cur, hv, k1, k2, k3⟩
 ·exact .inl h0
 ·have hl : g < w.heap.size := by
   rcases Nat.lt_or_ge g w.heap.size with hl | hg
   ·exact hl
   ·rw [Array.getElem?_eq_none hg] at k2; cases k2
  exact .inr ⟨g, cap, cur, hv, k1, (hb.block g hl).trans k2, k3⟩
namespace scan
open Go.Proofs.YtepfmpmphcndjaaGreatDoor.frame
def firstB (f : Fr) (n e : Int) : Bool := right f && decide (f.l = n) && decide (e ≤ f.e)
theorem row_drop {l : List Fr} {j : Nat} {f : Fr} (h : l[j]? = some f) (n e : Int) : row (l.drop j) n e = (firstB f n e && row (l.drop (j + 1)) (n + 1) f.e) := by
 obtain ⟨hj, rfl⟩ := List.getElem?_eq_some_iff.1 h
 rw [List.drop_eq_getElem_cons hj]; rfl
theorem first_of {e l k b0 b1 b2 b3 b4 b5 : Int} {f : Fr} {r : Bool} {n ep : Int} (h : (⟨e, l, k, b0, b1, b2, b3, b4, b5⟩ : Fr) = f) (hr : firstB f n ep = r) (W : World) :
  Calls Tryz.prog 101 #[.agg #[.int .i64 e, .int .i64 l, .int .i64 k, .int .i64 b0, .int .i64 b1, .int .i64 b2, .int .i64 b3, .int .i64 b4, .int .i64 b5], .int .i64 n, .int .i64 ep] W fun e w' => e = .returned (.bool r) ∧ Below W.heap.size W w' := by
 subst hr
 have HR : Hid (∀ r, right f = r → ∀ w, Calls Tryz.prog 128 #[.agg #[.int .i64 e, .int .i64 l, .int .i64 k, .int .i64 b0, .int .i64 b1, .int .i64 b2, .int .i64 b3, .int .i64 b4, .int .i64 b5]] w fun e w' => e = .returned (.bool r) ∧ Below w.heap.size w w') := Lib.hid (fun r hr w => right_of h hr w)
 have hfe : f.e = e := by rw [← h]
 have hfl : f.l = l := by rw [← h]
 obtain ⟨r, HRR⟩ : ∃ r, Hid (right f = r) := ⟨_, Lib.hid rfl⟩
 have hv : firstB f n ep = (r && decide (l = n) && decide (ep ≤ e)) := by unfold firstB; rw [HRR.out, hfe, hfl]
 rw [hv]
 clear hv hfe hfl h
 have HC := Lib.hid (HR.out r HRR.out)
 clear HR HRR
 rcases r with _ | _
 ·go_enter Tryz.func101, Tryz.ntmps101
  go_wp2_with ((with_reducible refine Calls.mono (HC.out _) ?_); rintro e1 w1 ⟨rfl, hb1⟩)
  go_ret
  exact ⟨retB (by simp), ((Below.refl _ _).alloc (Nat.le_refl _) _).trans (hb1.mono (by simp))⟩
 ·by_cases hl : l = n
  ·subst hl
   go_enter Tryz.func101, Tryz.ntmps101
   go_wp2_with ((with_reducible refine Calls.mono (HC.out _) ?_); rintro e1 w1 ⟨rfl, hb1⟩; have hg : w1.heap[W.heap.size]? = some (.cells #[.int .i64 e, .int .i64 l, .int .i64 k, .int .i64 b0, .int .i64 b1, .int .i64 b2, .int .i64 b3, .int .i64 b4, .int .i64 b5] 72 (0, 0)) := (hb1.block _ (by simp)).trans (heap_alloc_new W _); have x0 : w1.cell? ⟨W.heap.size, 0, none⟩ = some (.int .i64 e) := (block_cell hg 0 _ rfl).1; have x1 : w1.cell? ⟨W.heap.size, 1, none⟩ = some (.int .i64 l) := (block_cell hg 1 _ rfl).1; clear hg)
   go_ret
   exact ⟨retB (by simp), ((Below.refl _ _).alloc (Nat.le_refl _) _).trans (hb1.mono (by simp))⟩
  ·have hq : (l == n) = false := by simpa using hl
   have hd : decide (l = n) = false := by simpa using hl
   rw [hd]
   clear hd hl
   go_enter Tryz.func101, Tryz.ntmps101
   go_wp2_with ((with_reducible refine Calls.mono (HC.out _) ?_); rintro e1 w1 ⟨rfl, hb1⟩; have hg : w1.heap[W.heap.size]? = some (.cells #[.int .i64 e, .int .i64 l, .int .i64 k, .int .i64 b0, .int .i64 b1, .int .i64 b2, .int .i64 b3, .int .i64 b4, .int .i64 b5] 72 (0, 0)) := (hb1.block _ (by simp)).trans (heap_alloc_new W _); have x0 : w1.cell? ⟨W.heap.size, 0, none⟩ = some (.int .i64 e) := (block_cell hg 0 _ rfl).1; have x1 : w1.cell? ⟨W.heap.size, 1, none⟩ = some (.int .i64 l) := (block_cell hg 1 _ rfl).1; clear hg)
   go_ret
   exact ⟨retB (by simp), ((Below.refl _ _).alloc (Nat.le_refl _) _).trans (hb1.mono (by simp))⟩
theorem behind_of {e l k b0 b1 b2 b3 b4 b5 : Int} (h : l ≤ 1000000000) (h1 : 1 ≤ l) (W : World) :
  Calls Tryz.prog 102 #[.agg #[.int .i64 e, .int .i64 l, .int .i64 k, .int .i64 b0, .int .i64 b1, .int .i64 b2, .int .i64 b3, .int .i64 b4, .int .i64 b5]] W fun e' w' => e' = .returned (.tuple #[.int .i64 (l + 1), .int .i64 e]) ∧ Below W.heap.size W w' := by
 go_enter Tryz.func102, Tryz.ntmps102
 go_wp2
 go_quiet (fail)
 go_wp2
 go_ret2
 refine ⟨rfl, ?_⟩
 repeat (first | exact Below.refl _ _ | refine below_drewN ?_ _ | refine Below.drew ?_ | refine Below.alloc ?_ (by simp) _)
end scan
end Go.Proofs.YtepfmpmphcndjaaGreatDoor
end
section
namespace Go.Proofs.YtepfmpmphcndjaaGreatDoor.frame
set_option maxRecDepth 20000
open Go.RowKit Go.Proofs.YtepfmpmphcndjaaGreatDoor
theorem rright_any (f : Fr) (w : World) : Calls Tryz.prog 63 #[.agg (fc f)] w fun e w' => e = .returned (.bool (right f)) ∧ Below w.heap.size w w' := by
 obtain ⟨e, l, k, b0, b1, b2, b3, b4, b5⟩ := f
 have hc : ∃ r, Hid (right ⟨e, l, k, b0, b1, b2, b3, b4, b5⟩ = r) ∧ ((e < 1 ∧ r = false) ∨ (1 ≤ e ∧ 1000000 < e ∧ r = false) ∨ (1 ≤ e ∧ e ≤ 1000000 ∧ l < 1 ∧ r = false) ∨ (1 ≤ e ∧ e ≤ 1000000 ∧ 1 ≤ l ∧ 1000000000 < l ∧ r = false) ∨
   (1 ≤ e ∧ e ≤ 1000000 ∧ 1 ≤ l ∧ l ≤ 1000000000 ∧ k < 1 ∧ r = false) ∨ (1 ≤ e ∧ e ≤ 1000000 ∧ 1 ≤ l ∧ l ≤ 1000000000 ∧ 1 ≤ k ∧ 6 < k ∧ r = false) ∨ (1 ≤ e ∧ e ≤ 1000000 ∧ 1 ≤ l ∧ l ≤ 1000000000 ∧ 1 ≤ k ∧ k ≤ 6 ∧ r = true)) := by
  refine ⟨_, Lib.hid rfl, ?_⟩
  simp only [right, decide_eq_false_iff_not, decide_eq_true_eq]
  omega
 obtain ⟨r, HR, hc⟩ := hc
 show Calls Tryz.prog 63 #[.agg #[.int .i64 e, .int .i64 l, .int .i64 k, .int .i64 b0, .int .i64 b1, .int .i64 b2, .int .i64 b3, .int .i64 b4, .int .i64 b5]] w _
 rw [HR.out]
 rcases hc with ⟨h1, rfl⟩ | ⟨h1, h2, rfl⟩ | ⟨h1, h2, h3, rfl⟩ | ⟨h1, h2, h3, h4, rfl⟩ | ⟨h1, h2, h3, h4, h5, rfl⟩ | ⟨h1, h2, h3, h4, h5, h6, rfl⟩ | ⟨h1, h2, h3, h4, h5, h6, rfl⟩
 all_goals
  clear HR
  go_enter Tryz.func63, Tryz.ntmps63
  go_wp2
  go_ret
  exact ⟨retB (by first | rfl | (simp; omega)), (Below.refl _ _).alloc (Nat.le_refl _) _⟩
theorem rright_of {e l k b0 b1 b2 b3 b4 b5 : Int} {f : Fr} {r : Bool} (h : (⟨e, l, k, b0, b1, b2, b3, b4, b5⟩ : Fr) = f) (hr : right f = r) (W : World) : Calls Tryz.prog 63 #[.agg #[.int .i64 e, .int .i64 l, .int .i64 k, .int .i64 b0, .int .i64 b1, .int .i64 b2, .int .i64 b3, .int .i64 b4, .int .i64 b5]] W fun e' w' => e' = .returned (.bool r) ∧ Below W.heap.size W w' := by
 subst h hr; exact rright_any ⟨e, l, k, b0, b1, b2, b3, b4, b5⟩ W
def Made (bs : List Nat) (n : Nat) (w : World) (e : Ending) (w' : World) : Prop :=
 ∃ A c, e = .returned (.slice A n c) ∧ OwnBys w' w.heap.size 5 A n c bs ∧ Below w.heap.size w w'
theorem four_any (v : Nat) (w : World) (hv : v < 18446744073709551616) : Calls Tryz.prog 110 #[.int .u64 (v : Int)] w (Made (be 4 v) 4 w) := by
 go_enter Tryz.func110, Tryz.ntmps110
 go_wp2
 go_ret
 refine ⟨_, _, rfl, OwnBys.new (Nat.le_refl _) _ ?_ (be_lt 4 v) rfl (by unfold maxLen; omega), (Below.refl _ _).alloc (Nat.le_refl _) _⟩
 simp [be, toI]
theorem four_is (v : Nat) (z : Int) (w : World) (hz : z = (v : Int)) (hv : v < 18446744073709551616) : Calls Tryz.prog 110 #[.int .u64 z] w (Made (be 4 v) 4 w) := by
 subst hz; exact four_any v w hv
theorem be_split (n : Nat) : be 4 (n / 4294967296) ++ be 4 n = be 8 n := by
 simp [be, Nat.div_div_eq_div_mul]
theorem reight_any (x : Int) (w : World) : Calls Tryz.prog 111 #[.int .i64 x] w (Made (be 8 (u x)) 8 w) := by
 have hinfo : Hid ((Tryz.prog.info? 5).map (fun i => (i.zero, i.size, i.bytes)) = some (some (.int .u8 0), 1, 1)) := Lib.hid (by kernel_rfl)
 have hl := u_lt x
 go_enter Tryz.func111, Tryz.ntmps111
 go_wp2_with fail
 refine Calls.mono (four_is (u x / 4294967296) _ _ (by rw [wrap_u]; simp) (by omega)) ?_
 rintro e w1 ⟨A1, c1, rfl, hown1, hb1⟩
 go_wp2_with fail
 refine Calls.mono (four_is (u x) _ _ (wrap_u x) (by omega)) ?_
 rintro e w2 ⟨A2, c2, rfl, hown2, hb2⟩
 have ho := own_later hown1 hb2
 have hbb : Below w.heap.size w w2 := hb1.trans (hb2.mono hb1.size)
 go_wp2_with (at_builtin; refine wpList_append_bys rfl (.tmp 6) (.tmp 9) _ rfl w.heap.size 5 Tryz.underlying62 hinfo.out rfl ho rfl hown2.bys (be_len 4 _) (by omega) hbb.size ?_; intro A3 c3 w3 hown3 hgr3 hat3; have hb3 : Below w.heap.size w w3 := hbb.grown hgr3 hbb.size (by intro g' hgg; exact (ho.block g' hgg).1); clear hgr3 hat3)
 go_ret
 rw [be_split] at hown3
 exact ⟨A3, c3, rfl, hown3, hb3⟩
end Go.Proofs.YtepfmpmphcndjaaGreatDoor.frame
end
section
namespace Go.Proofs.YtepfmpmphcndjaaGreatDoor.scan
set_option maxRecDepth 20000
open Go.RowKit Go.Proofs.YtepfmpmphcndjaaGreatDoor Go.Proofs.YtepfmpmphcndjaaGreatDoor.frame
theorem fr_lit {e l k b0 b1 b2 b3 b4 b5 : Int} {f : Fr} (h : (⟨e, l, k, b0, b1, b2, b3, b4, b5⟩ : Fr) = f) : f.e = e ∧ f.l = l := by subst h; exact ⟨rfl, rfl⟩
theorem firstB_right {f : Fr} {n e : Int} (h : firstB f n e = true) : right f = true ∧ f.l = n ∧ e ≤ f.e := by simpa [firstB, and_assoc] using h
set_option maxHeartbeats 2000000 in
theorem row_any (A : Option Addr) (m c : Nat) (l : List Fr) (n ep : Int) (w : World) (hx : Frs w w.heap.size A l) (hm : l.length = m) (hmax : m ≤ 9223372036854775807) :
  Calls Tryz.prog 61 #[.slice A m c, .int .i64 n, .int .i64 ep] w fun e w' => e = .returned (.bool (row l n ep)) ∧ Below w.heap.size w w' := by
 have HM : Hid (l.length = m) := Lib.hid hm
 obtain ⟨R, HR⟩ : ∃ R, Hid (row l n ep = R) := ⟨_, Lib.hid rfl⟩
 rw [HR.out]
 clear hm
 go_enter Tryz.func61, Tryz.ntmps61
 go_wp2
 go_loopw [1, 2, 11] (fun s1 s2 i wr => ∃ (j : Nat) (n' e' : Int), j ≤ m ∧ i = .int .i64 j ∧ s1 = .int .i64 n' ∧ s2 = .int .i64 e' ∧ Hid (row (l.drop j) n' e' = R) ∧ Below w.heap.size w wr) (fun _ _ i _ => m - (intOf i).toNat)
 case atStart => exact ⟨0, n, ep, Nat.zero_le _, rfl, rfl, rfl, Lib.hid (by rw [List.drop_zero]; exact HR.out), Below.refl _ _⟩
 case round =>
  obtain ⟨j, n', e', hj, rfl, rfl, rfl, HRR, hbr⟩ := hrel
  by_cases hlt : j < m
  ·obtain ⟨b, off, e, k, kd, b0, b1, b2, b3, b4, b5, rfl, hb, HX, x0, x1, x2, x3, x4, x5, x6, x7, x8, HF⟩ := (hx.below hbr).at_ (j := j) (by rw [HM.out]; exact hlt)
   have hsz := hbr.size
   have hblt : b < wr.heap.size := by omega
   obtain ⟨f, HFF⟩ : ∃ f, Hid ((⟨e, k, kd, b0, b1, b2, b3, b4, b5⟩ : Fr) = f) := ⟨_, Lib.hid rfl⟩
   obtain ⟨r, Hr⟩ : ∃ r, Hid (firstB f n' e' = r) := ⟨_, Lib.hid rfl⟩
   have HC := Lib.hid (fun W => first_of HFF.out Hr.out W)
   have HB := Lib.hid (fun W => behind_of (e := e) (l := k) (k := kd) (b0 := b0) (b1 := b1) (b2 := b2) (b3 := b3) (b4 := b4) (b5 := b5) (W := W))
   have HD : Hid (R = (r && row (l.drop (j + 1)) (n' + 1) f.e)) := Lib.hid (by rw [← HRR.out, row_drop (by rw [HX.out, HFF.out]), Hr.out])
   have HW := Lib.hid (hbr.alloc hsz (.cells #[.int .i64 e, .int .i64 k, .int .i64 kd, .int .i64 b0, .int .i64 b1, .int .i64 b2, .int .i64 b3, .int .i64 b4, .int .i64 b5] 72))
   rcases r with _ | _
   ·go_wp2_with ((with_reducible refine Calls.mono (HC.out _) ?_); rintro e1 w1 ⟨rfl, hb1⟩)
    go_ret
    exact ⟨retB (by rw [HD.out]; rfl), HW.out.trans (hb1.mono (by simp; omega))⟩
   ·have hr := firstB_right Hr.out
    have hlit := fr_lit HFF.out
    have hfit := right_fit hr.1
    have hk1 : 1 ≤ k := by omega
    have hk2 : k ≤ 1000000000 := by omega
    have HD2 : Hid (row (l.drop (j + 1)) (k + 1) e = R) := Lib.hid (by rw [HD.out, hlit.1, ← hr.2.1, hlit.2]; rfl)
    clear hr hlit hfit
    go_wp2_with (first
     |((with_reducible refine Calls.mono (HC.out _) ?_); rintro e1 w1 ⟨rfl, hb1⟩; have hg : w1.heap[wr.heap.size]? = some (.cells #[.int .i64 e, .int .i64 k, .int .i64 kd, .int .i64 b0, .int .i64 b1, .int .i64 b2, .int .i64 b3, .int .i64 b4, .int .i64 b5] 72 (0, 0)) := (hb1.block _ (by simp)).trans (heap_alloc_new wr _); have y0 : w1.cell? ⟨wr.heap.size, 0, none⟩ = some (.int .i64 e) := (block_cell hg 0 _ rfl).1; have y1 : w1.cell? ⟨wr.heap.size, 1, none⟩ = some (.int .i64 k) := (block_cell hg 1 _ rfl).1; have y2 : w1.cell? ⟨wr.heap.size, 2, none⟩ = some (.int .i64 kd) := (block_cell hg 2 _ rfl).1; have y3 : w1.cell? ⟨wr.heap.size, 3, none⟩ = some (.int .i64 b0) := (block_cell hg 3 _ rfl).1; have y4 : w1.cell? ⟨wr.heap.size, 4, none⟩ = some (.int .i64 b1) := (block_cell hg 4 _ rfl).1; have y5 : w1.cell? ⟨wr.heap.size, 5, none⟩ = some (.int .i64 b2) := (block_cell hg 5 _ rfl).1; have y6 : w1.cell? ⟨wr.heap.size, 6, none⟩ = some (.int .i64 b3) := (block_cell hg 6 _ rfl).1; have y7 : w1.cell? ⟨wr.heap.size, 7, none⟩ = some (.int .i64 b4) := (block_cell hg 7 _ rfl).1; have y8 : w1.cell? ⟨wr.heap.size, 8, none⟩ = some (.int .i64 b5) := (block_cell hg 8 _ rfl).1; clear hg)
     |((with_reducible refine Calls.mono (HB.out _ hk2 hk1) ?_); rintro e2 w2 ⟨rfl, hb2⟩))
    go_roundw
    case rel => exact ⟨j + 1, k + 1, e, by omega, by go_num, rfl, rfl, HD2, (HW.out.trans (hb1.mono (by simp; omega))).trans (hb2.mono (by have := hb1.size; simp at this; omega))⟩
    case measure => first | (simp [intOf]; done) | (simp [intOf]; omega)
  ·have HE : Hid (true = R) := Lib.hid (by rw [← HRR.out, List.drop_of_length_le (by rw [HM.out]; omega)]; rfl)
   go_wp2
   go_ret
   exact ⟨retB HE.out, hbr⟩
set_option maxHeartbeats 2000000 in
theorem same_any (A : Option Addr) (m c : Nat) (l : List Fr) (A2 : Option Addr) (m2 c2 : Nat) (l2 : List Fr) (w : World) (hx : Frs w w.heap.size A l) (hm : l.length = m) (hx2 : Frs w w.heap.size A2 l2) (hm2 : l2.length = m2) (hmax : m ≤ 9223372036854775807) (hmax2 : m2 ≤ 9223372036854775807) :
  Calls Tryz.prog 28 #[.slice A m c, .slice A2 m2 c2] w fun e w' => e = .returned (.bool (decide (l = l2))) ∧ ∃ q, w' = w.drewN q := by
 have HM : Hid (l.length = m) := Lib.hid hm
 have HM2 : Hid (l2.length = m2) := Lib.hid hm2
 obtain ⟨R, HR⟩ : ∃ R, Hid (decide (l = l2) = R) := ⟨_, Lib.hid rfl⟩
 rw [HR.out]
 clear hm hm2
 by_cases hne : m = m2
 ·subst hne
  go_enter Tryz.func28, Tryz.ntmps28
  go_wp2
  go_loopw [5] (fun i wr => ∃ (j : Nat), j ≤ m ∧ i = .int .i64 j ∧ Hid (l.take j = l2.take j) ∧ ∃ q, wr = w.drewN q) (fun i _ => m - (intOf i).toNat)
  case atStart => exact ⟨0, Nat.zero_le _, rfl, Lib.hid rfl, 0, rfl⟩
  case round =>
   obtain ⟨j, hj, rfl, HT, q, rfl⟩ := hrel
   by_cases hlt : j < m
   ·obtain ⟨b, off, e, k, kd, b0, b1, b2, b3, b4, b5, rfl, hb, HX, x0, x1, x2, x3, x4, x5, x6, x7, x8, HF⟩ := hx.at_ (j := j) (by rw [HM.out]; exact hlt)
    obtain ⟨b', off', e', k', kd', b0', b1', b2', b3', b4', b5', rfl, hb', HX', x0', x1', x2', x3', x4', x5', x6', x7', x8', HF'⟩ := hx2.at_ (j := j) (by rw [HM2.out]; exact hlt)
    obtain ⟨f, HFF⟩ : ∃ f, Hid ((⟨e, k, kd, b0, b1, b2, b3, b4, b5⟩ : Fr) = f) := ⟨_, Lib.hid rfl⟩
    obtain ⟨g, HGG⟩ : ∃ f, Hid ((⟨e', k', kd', b0', b1', b2', b3', b4', b5'⟩ : Fr) = f) := ⟨_, Lib.hid rfl⟩
    obtain ⟨r, Hr⟩ : ∃ r, Hid (decide (f = g) = r) := ⟨_, Lib.hid rfl⟩
    have heq := fun W => eq_of HFF.out HGG.out (by rw [← HFF.out]; exact HF.out) (by rw [← HGG.out]; exact HF'.out) Hr.out W
    have h1 := HX.out
    have h2 := HX'.out
    rw [HFF.out] at h1
    rw [HGG.out] at h2
    rcases r with _ | _
    ·have HE : Hid (false = R) := Lib.hid (by
      rw [← HR.out]; symm
      simp only [decide_eq_false_iff_not]
      rintro rfl
      have := Hr.out
      rw [h1] at h2
      injection h2 with h2
      simp [h2] at this)
     clear h1 h2
     go_wp2
     go_quiet (fail)
     go_wp2
     go_ret
     exact ⟨retB HE.out, q + nq, by simp⟩
    ·have HE : Hid (l.take (j + 1) = l2.take (j + 1)) := Lib.hid (by
      have := Hr.out
      simp only [decide_eq_true_eq] at this
      rw [List.take_add_one, List.take_add_one, HT.out, h1, h2, this])
     clear h1 h2
     go_wp2
     go_quiet (fail)
     go_wp2
     go_roundw
     case rel => exact ⟨j + 1, by omega, by go_num, HE, _, rfl⟩
     case measure => first | (simp [intOf]; done) | (simp [intOf]; omega)
   ·have HE : Hid (true = R) := Lib.hid (by
     have := HT.out
     rw [List.take_of_length_le (by rw [HM.out]; omega), List.take_of_length_le (by rw [HM2.out]; omega)] at this
     rw [← HR.out, this]; simp)
    go_wp2
    go_ret
    exact ⟨retB HE.out, q, rfl⟩
 ·have HE : Hid (false = R) := Lib.hid (by
   rw [← HR.out]; symm
   simp only [decide_eq_false_iff_not]
   rintro rfl
   exact hne (by rw [← HM.out, ← HM2.out]))
  have hq : ((m : Int) != (m2 : Int)) = true := by simp; omega
  have hq2 : (m != m2) = true := by simpa using hne
  clear hne
  go_enter Tryz.func28, Tryz.ntmps28
  go_wp2
  go_ret
  exact ⟨retB HE.out, 0, rfl⟩
end Go.Proofs.YtepfmpmphcndjaaGreatDoor.scan
end
