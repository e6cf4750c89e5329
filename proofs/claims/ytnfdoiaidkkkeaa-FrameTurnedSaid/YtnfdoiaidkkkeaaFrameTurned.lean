/-
  PROVED: the law FrameTurned answers true at every input, and leaves what it was given as it was.
  CONDITIONS: none.
-/
import Derived.Test.YtnfdoiaidkkkeaaRows
import Derived.WalkKit
import Derived.ProofKit
import Derived.OpenShut
import Derived.ShutString
import Derived.ChangeOld
import Derived.Below
import Derived.Test.YtnfdoiaidkkkeaaApi04
import Derived.Test.YtnfdoiaidkkkeaaStr
import Derived.Test.YtnfdoiaidkkkeaaFrameImpl4
namespace Go.Proofs.Ytnfdoiaidkkkeaa.frameTurned
open Go.ChangeShapes Go.WideShapes Go.ChangeAt Go.RowKit
open Go.ChangeMaps (open_string shut_string)
set_option linter.unusedVariables false

theorem own : ownKnob Try.prog.godebug = none := by kernel_rfl
theorem laidOut : laidOutB Try.prog = true := by kernel_rfl

set_option maxHeartbeats 8000000 in
set_option maxRecDepth 100000 in
theorem walk (cs0 : Array Value) (x0 : FrameD) (a1 : Int) (cs2 : Array Value) (x2 : List (Int)) (a3 : Int) (p4 : Option Addr) (n4 c4 : Nat) (x4 : List Nat) (w : World) (w0 : rdFrame w (Lt w.heap.size) cs0.toList x0) (w1 : (Lit.int .u8 a1).wf = true) (w2 : (rdArr (rdInt .u8) 4 1) w (Lt w.heap.size) cs2.toList x2) (w3 : (Lit.int .u8 a3).wf = true) (w4 : rdBytes w (Lt w.heap.size) [.slice p4 n4 c4] x4) :
    Calls Try.prog 5 #[.agg cs0, .int .u8 a1, .agg cs2, .int .u8 a3, .slice p4 n4 c4] w fun e w' => e = .returned (.bool true) ∧ Below w.heap.size w w' := by
  obtain ⟨w0, g0⟩ := w0
  obtain ⟨a, rfl, ha⟩ := nat_of_u8 w1
  obtain ⟨y0, y1, y2, y3, l0_, l1_, l2_, l3_, rfl⟩ := arr4_bytes w2
  obtain ⟨cu, rfl, hcu⟩ := nat_of_u8 w3
  obtain ⟨A, m, cp, hA, hin, hlen, hcap, hmax⟩ := w4
  simp only [List.cons.injEq, Value.slice.injEq, and_true] at hA
  obtain ⟨rfl, rfl, rfl⟩ := hA
  have hx : Bys w w.heap.size p4 x4 := BysIn.bys hin (fun b h => h)
  obtain rfl : cs0 = frame.fc x0 := by apply Array.toList_inj.1; exact w0
  clear w0 w1 w2 w3 hin
  obtain ⟨e0, l0, k0, b00, b10, b20, b30, b40, b50⟩ := x0
  obtain ⟨f0, HF0⟩ : ∃ f, Hid ((⟨e0, l0, k0, b00, b10, b20, b30, b40, b50⟩ : frame.Fr) = f) := ⟨_, Lib.hid rfl⟩
  show Calls Try.prog 5 #[.agg #[.int .i64 e0, .int .i64 l0, .int .i64 k0, .int .i64 b00, .int .i64 b10, .int .i64 b20, .int .i64 b30, .int .i64 b40, .int .i64 b50], .int .u8 (a : Int), .agg #[.int .u8 (y0 : Int), .int .u8 (y1 : Int), .int .u8 (y2 : Int), .int .u8 (y3 : Int)], .int .u8 (cu : Int), .slice p4 n4 c4] w _
  have G0 : Hid f0.fine := Lib.hid (by rw [← HF0.out]; exact g0)
  have HN := Lib.hid hlen
  clear g0 hlen
  obtain ⟨W0, HW0⟩ : ∃ W, Hid (((w.alloc (.cells #[.int .i64 e0, .int .i64 l0, .int .i64 k0, .int .i64 b00, .int .i64 b10, .int .i64 b20, .int .i64 b30, .int .i64 b40, .int .i64 b50] 24)).alloc (.cells #[.int .u8 (y0 : Int), .int .u8 (y1 : Int), .int .u8 (y2 : Int), .int .u8 (y3 : Int)] 38)) = W) := ⟨_, Lib.hid rfl⟩
  have hbW : Below w.heap.size w W0 := by rw [← HW0.out]; exact ((Below.refl _ _).alloc (Nat.le_refl _) _).alloc (by simp) _
  have hsz : w.heap.size + 1 + 1 = W0.heap.size := by rw [← HW0.out]; simp
  have HK0 : Hid (∀ W, Below W0.heap.size W0 W → W.heap[w.heap.size]? = some (.cells #[.int .i64 e0, .int .i64 l0, .int .i64 k0, .int .i64 b00, .int .i64 b10, .int .i64 b20, .int .i64 b30, .int .i64 b40, .int .i64 b50] 24 (0, 0))) := Lib.hid (fun W hb => (hb.block _ (by omega)).trans (by rw [← HW0.out]; exact (Below.heap_alloc _ _ _ (by simp)).trans (heap_alloc_new w _)))
  obtain ⟨ys, HYS⟩ : ∃ ys, Hid ([y0, y1, y2, y3] = ys) := ⟨_, Lib.hid rfl⟩
  have hyl : Hid (ys.length = 4) := Lib.hid (by rw [← HYS.out]; rfl)
  have hyb : Hid (∀ y ∈ ys, y < 256) := Lib.hid (by rw [← HYS.out]; intro y hy; simp at hy; omega)
  have HB : Hid (Bys W0 W0.heap.size (some ⟨w.heap.size + 1, 0, none⟩) ys) := Lib.hid (by
    have := Bys.new (w := w.alloc (.cells #[.int .i64 e0, .int .i64 l0, .int .i64 k0, .int .i64 b00, .int .i64 b10, .int .i64 b20, .int .i64 b30, .int .i64 b40, .int .i64 b50] 24)) (t := 38) ys (cs := #[.int .u8 (y0 : Int), .int .u8 (y1 : Int), .int .u8 (y2 : Int), .int .u8 (y3 : Int)]) (by rw [← HYS.out]; rfl) hyb.out
    rw [← HW0.out]
    simpa using this)
  have HM : Hid (Bys W0 W0.heap.size p4 x4) := Lib.hid ((hx.below hbW).more (by omega))
  have HBW := Lib.hid hbW
  have HSZ := Lib.hid hsz
  clear hbW hsz hx HYS
  obtain ⟨r0, HR0⟩ : ∃ r, Hid (frame.right f0 = r) := ⟨_, Lib.hid rfl⟩
  rcases r0 with _ | _
  · go_enter Try.func5, Try.ntmps5
    go_wp2_with (first
      | ((with_reducible refine (frame.awake_any _).mono ?_); rintro e w1 ⟨rfl, hg0⟩; have hg : Below W0.heap.size W0 w1 := (by rw [HW0.out] at hg0; exact hg0); clear hg0; have hf1 := HK0.out w1 hg; have ka0 : w1.cell? ⟨w.heap.size, 0, none⟩ = some (.int .i64 e0) := (block_cell hf1 0 _ rfl).1; have ka1 : w1.cell? ⟨w.heap.size, 1, none⟩ = some (.int .i64 l0) := (block_cell hf1 1 _ rfl).1; have ka2 : w1.cell? ⟨w.heap.size, 2, none⟩ = some (.int .i64 k0) := (block_cell hf1 2 _ rfl).1; have ka3 : w1.cell? ⟨w.heap.size, 3, none⟩ = some (.int .i64 b00) := (block_cell hf1 3 _ rfl).1; have ka4 : w1.cell? ⟨w.heap.size, 4, none⟩ = some (.int .i64 b10) := (block_cell hf1 4 _ rfl).1; have ka5 : w1.cell? ⟨w.heap.size, 5, none⟩ = some (.int .i64 b20) := (block_cell hf1 5 _ rfl).1; have ka6 : w1.cell? ⟨w.heap.size, 6, none⟩ = some (.int .i64 b30) := (block_cell hf1 6 _ rfl).1; have ka7 : w1.cell? ⟨w.heap.size, 7, none⟩ = some (.int .i64 b40) := (block_cell hf1 7 _ rfl).1; have ka8 : w1.cell? ⟨w.heap.size, 8, none⟩ = some (.int .i64 b50) := (block_cell hf1 8 _ rfl).1; clear hf1)
      | ((with_reducible refine Calls.mono (frame.encode_no_of HF0.out HR0.out w1) ?_); rintro e' w2 ⟨rfl, hb2⟩))
    go_ret
    exact ⟨rfl, HBW.out.trans ((hg.trans (hb2.mono hg.size)).mono (by have := HSZ.out; omega))⟩
  by_cases h9 : 9 < n4
  · go_enter Try.func5, Try.ntmps5
    go_wp2_with (first
      | ((with_reducible refine (frame.awake_any _).mono ?_); rintro e w1 ⟨rfl, hg0⟩; have hg : Below W0.heap.size W0 w1 := (by rw [HW0.out] at hg0; exact hg0); clear hg0; have hf1 := HK0.out w1 hg; have ka0 : w1.cell? ⟨w.heap.size, 0, none⟩ = some (.int .i64 e0) := (block_cell hf1 0 _ rfl).1; have ka1 : w1.cell? ⟨w.heap.size, 1, none⟩ = some (.int .i64 l0) := (block_cell hf1 1 _ rfl).1; have ka2 : w1.cell? ⟨w.heap.size, 2, none⟩ = some (.int .i64 k0) := (block_cell hf1 2 _ rfl).1; have ka3 : w1.cell? ⟨w.heap.size, 3, none⟩ = some (.int .i64 b00) := (block_cell hf1 3 _ rfl).1; have ka4 : w1.cell? ⟨w.heap.size, 4, none⟩ = some (.int .i64 b10) := (block_cell hf1 4 _ rfl).1; have ka5 : w1.cell? ⟨w.heap.size, 5, none⟩ = some (.int .i64 b20) := (block_cell hf1 5 _ rfl).1; have ka6 : w1.cell? ⟨w.heap.size, 6, none⟩ = some (.int .i64 b30) := (block_cell hf1 6 _ rfl).1; have ka7 : w1.cell? ⟨w.heap.size, 7, none⟩ = some (.int .i64 b40) := (block_cell hf1 7 _ rfl).1; have ka8 : w1.cell? ⟨w.heap.size, 8, none⟩ = some (.int .i64 b50) := (block_cell hf1 8 _ rfl).1; clear hf1)
      | ((with_reducible refine Calls.mono (frame.encode_yes_of HF0.out G0.out HR0.out w1) ?_); rintro e' w2 ⟨g, rfl, hown, hb2⟩))
    go_ret
    exact ⟨rfl, HBW.out.trans ((hg.trans (hb2.mono hg.size)).mono (by have := HSZ.out; omega))⟩
  have hn9 : n4 ≤ 9 := by omega
  obtain ⟨f, hf, hfl⟩ : ∃ f : Nat, (a : Int) % 72 = (f : Int) ∧ f < 72 := ⟨a % 72, by simp, Nat.mod_lt _ (by omega)⟩
  have hinfo : Hid ((Try.prog.info? 5).map (fun i => (i.zero, i.size, i.bytes)) = some (some (.int .u8 0), 1, 1)) := Lib.hid (by kernel_rfl)
  go_enter Try.func5, Try.ntmps5
  go_wp2_with (first
    | ((with_reducible refine (frame.awake_any _).mono ?_); rintro e w1 ⟨rfl, hg0⟩; have hg : Below W0.heap.size W0 w1 := (by rw [HW0.out] at hg0; exact hg0); clear hg0; have hf1 := HK0.out w1 hg; have ka0 : w1.cell? ⟨w.heap.size, 0, none⟩ = some (.int .i64 e0) := (block_cell hf1 0 _ rfl).1; have ka1 : w1.cell? ⟨w.heap.size, 1, none⟩ = some (.int .i64 l0) := (block_cell hf1 1 _ rfl).1; have ka2 : w1.cell? ⟨w.heap.size, 2, none⟩ = some (.int .i64 k0) := (block_cell hf1 2 _ rfl).1; have ka3 : w1.cell? ⟨w.heap.size, 3, none⟩ = some (.int .i64 b00) := (block_cell hf1 3 _ rfl).1; have ka4 : w1.cell? ⟨w.heap.size, 4, none⟩ = some (.int .i64 b10) := (block_cell hf1 4 _ rfl).1; have ka5 : w1.cell? ⟨w.heap.size, 5, none⟩ = some (.int .i64 b20) := (block_cell hf1 5 _ rfl).1; have ka6 : w1.cell? ⟨w.heap.size, 6, none⟩ = some (.int .i64 b30) := (block_cell hf1 6 _ rfl).1; have ka7 : w1.cell? ⟨w.heap.size, 7, none⟩ = some (.int .i64 b40) := (block_cell hf1 7 _ rfl).1; have ka8 : w1.cell? ⟨w.heap.size, 8, none⟩ = some (.int .i64 b50) := (block_cell hf1 8 _ rfl).1; clear hf1)
    | ((with_reducible refine Calls.mono (frame.encode_yes_of HF0.out G0.out HR0.out w1) ?_); rintro e' w2 ⟨g, rfl, hown, hb2⟩; have hg2 : Below W0.heap.size W0 w2 := hg.trans (hb2.mono hg.size); have HO := Lib.hid hown.bys; have hgl : g < w2.heap.size := (hown.block g rfl).2; clear hown hb2 hg ka0 ka1 ka2 ka3 ka4 ka5 ka6 ka7 ka8)
    | (at_builtin; refine wpList_append_bys rfl (.tmp 54) (.tmp 55) _ rfl w2.heap.size 5 Try.underlying25 hinfo.out rfl (OwnBys.new (Nat.le_refl _) [] rfl (by simp) rfl (by unfold maxLen; omega)) rfl (HO.out.below ((Below.refl _ _).alloc (Nat.le_refl _) _)) (frame.enc_len f0) (by omega) (by simp) ?_; intro A1 c1 w3 hown3 hgr3 hat3; have hb3 : Below w2.heap.size w2 w3 := ((Below.refl _ _).alloc (Nat.le_refl _) _).grown hgr3 (by simp) (by intro g hgg; simp [Value.ownBlock] at hgg; omega); clear hgr3 hat3; simp only [Nat.zero_add, List.nil_append] at hown3))
  go_loopw [15, 16] (fun ch i wr => ∃ (k : Nat) (b : Bool), k ≤ 4 ∧ f + k ≤ 72 ∧ i = .int .i64 k ∧ ch = .bool b ∧ Hid (b = true ↔ ¬ ∀ y ∈ ys.take k, y = 0) ∧ OwnBys wr w2.heap.size 5 A1 72 c1 (crc.turn (frame.enc f0) (crc.amid f k (72 - f - k) ys)) ∧ Below w2.heap.size w2 wr) (fun _ i _ => 4 - (intOf i).toNat)
  case atStart => exact ⟨0, false, by omega, by omega, rfl, rfl, Lib.hid (by simp), by rw [crc.amid_zero, show f + (72 - f - 0) = (frame.enc f0).length by rw [frame.enc_len]; omega, crc.turn_zeros]; exact hown3, hb3⟩
  case round =>
    obtain ⟨k, b, hk, hfk, rfl, rfl, HC, hown, hbr⟩ := hrel
    by_cases hgo : k < 4 ∧ f + k < 72
    · obtain ⟨hk4, hfn⟩ := hgo
      obtain ⟨b1, o1, v1, e1, q1, X1, cell1, lt1⟩ := ((HB.out.below hg2).below (hbr.mono hg2.size)).at_ (j := k) (by rw [hyl.out]; exact hk4)
      simp only [Option.some.injEq, Addr.mk.injEq, and_true] at e1
      obtain ⟨rfl, rfl⟩ := e1
      rw [Nat.zero_add] at cell1
      obtain ⟨b2, o2, v2, e2, q2, X2, cell2, lt2⟩ := (HO.out.below hbr).at_ (j := f + k) (by rw [frame.enc_len]; exact hfn)
      simp only [Option.some.injEq, Addr.mk.injEq, and_true] at e2
      obtain ⟨rfl, rfl⟩ := e2
      rw [Nat.zero_add] at cell2
      obtain ⟨g', z, rfl, q4, q5, X4, cell4, lt4, fr4⟩ := hown.at_ hfn
      obtain ⟨m, d1, g1, s1⟩ := xor8 v2 v1 lt2 lt1
      have hown2 : OwnBys (wr.setCell ⟨g', f + k, none⟩ (.int .u8 (m : Int))) w2.heap.size 5 (some ⟨g', 0, none⟩) 72 c1 (crc.turn (frame.enc f0) (crc.amid f (k + 1) (72 - f - (k + 1)) ys)) := by
        rw [crc.amid_step f k (72 - f - (k + 1)) v1 ys X1.out, show 72 - f - (k + 1) + 1 = 72 - f - k by omega, crc.turn_set (frame.enc f0) _ _ v2 v1 X2.out, ← g1.out]
        exact hown.stored (f + k) s1
      have hb2 : Below w2.heap.size w2 (wr.setCell ⟨g', f + k, none⟩ (.int .u8 (m : Int))) := hbr.setCell q4 _
      have HT : Hid (∀ b' : Bool, (b' = true ↔ (b = true ∨ v1 ≠ 0)) → (b' = true ↔ ¬ ∀ y ∈ ys.take (k + 1), y = 0)) := Lib.hid (by
        intro b' hb'
        rw [hb', HC.out, List.take_add_one, X1.out]
        simp only [Option.toList_some, List.mem_append, List.mem_singleton]
        constructor
        · rintro (h | h) hall
          · exact h (fun y hy => hall y (.inl hy))
          · exact h (hall v1 (.inr rfl))
        · intro h
          by_cases hv : v1 = 0
          · left; intro hall; apply h; rintro y (hy | rfl)
            · exact hall y hy
            · exact hv
          · exact .inr hv)
      have HT2 := HT
      have cell1' : (wr.setCell ⟨g', f + k, none⟩ (.int .u8 (m : Int))).cell? ⟨w.heap.size + 1, k, none⟩ = some (.int .u8 (v1 : Int)) := (World.cell?_of_block (Below.heap_setCell _ _ _ _ (by show w.heap.size + 1 ≠ g'; have := HSZ.out; have := hg2.size; omega))).trans cell1
      clear HC
      by_cases hv : v1 = 0
      · have hvb : ((v1 : Int) != 0) = false := by simp; omega
        have HV := Lib.hid hv
        clear hv
        rcases b with _ | _
        all_goals
          go_wp2
          go_region
          go_wp2
          go_roundw
          case rel => exact ⟨k + 1, _, by omega, by omega, by go_num, rfl, Lib.hid (HT.out _ (by have := HV.out; simp [this])), hown2, hb2.drew⟩
          case measure => first | (simp [intOf]; done) | (simp [intOf]; omega)
      · have hvb : ((v1 : Int) != 0) = true := by simp; omega
        have HV := Lib.hid hv
        clear hv
        rcases b with _ | _
        all_goals
          go_wp2
          go_region
          go_wp2
          go_roundw
          case rel => exact ⟨k + 1, _, by omega, by omega, by go_num, rfl, Lib.hid (HT.out _ (by have := HV.out; simp [this])), hown2, hb2.drew⟩
          case measure => first | (simp [intOf]; done) | (simp [intOf]; omega)
    · have hend : k = 4 ∨ (k < 4 ∧ f + k = 72) := by omega
      clear hgo
      have hcap1 := own_cap hown
      unfold maxLen at hcap1
      have hdt := frame.dec_turned f0 G0.out HR0.out f k ys hk (by rw [hyl.out]; exact hk) hyb.out hfk
      have hcl : (crc.turn (frame.enc f0) (crc.amid f k (72 - f - k) ys)).length = 72 := by
        rw [crc.turn_len _ _ (by rw [frame.enc_len, crc.amid_len _ _ _ _ (by rw [hyl.out]; exact hk)]; omega), frame.enc_len]
      obtain ⟨cc, HCC⟩ : ∃ cc, Hid (crc.turn (frame.enc f0) (crc.amid f k (72 - f - k) ys) = cc) := ⟨_, Lib.hid rfl⟩
      rw [HCC.out] at hown hdt hcl
      obtain ⟨d1, h1, HD1⟩ : ∃ d h, Hid (frame.dec cc = (d, h)) := ⟨_, _, Lib.hid rfl⟩
      rw [HD1.out] at hdt
      have hbd : (d1 == 0) = !b := by
        by_cases hall : ∀ y ∈ ys.take k, y = 0
        · have hb : b = false := by
            rcases b with _ | _
            · rfl
            · exact absurd hall (HC.out.1 rfl)
          have hd : d1 = 0 := hdt.2 hall
          rw [hb, hd]; rfl
        · have hb : b = true := HC.out.2 hall
          have hd : d1 ≠ 0 := fun h => hall (hdt.1 h)
          rw [hb]; simpa using hd
      obtain ⟨e1, l1, k1, b01, b11, b21, b31, b41, b51⟩ := h1
      have HDC := Lib.hid (frame.decode_of wr hown.bys (Nat.le_refl _) hcl hcap1.1 (by have := hcap1.2; omega) HD1.out)
      obtain ⟨q, hq, hql⟩ : ∃ q : Nat, (cu : Int) % 72 = (q : Int) ∧ q < 72 := ⟨cu % 72, by simp, Nat.mod_lt _ (by omega)⟩
      have HD2 : Hid (∀ W, Below w2.heap.size w2 W → Calls Try.prog 11 #[.slice (some ⟨g, 0, none⟩) q 72] W fun e' w' => e' = .returned (.tuple #[.agg #[.int .i64 0, .int .i64 0, .int .i64 0, .int .i64 0, .int .i64 0, .int .i64 0, .int .i64 0, .int .i64 0, .int .i64 0], .int .i64 2]) ∧ Below W.heap.size W w') := Lib.hid (fun W hb => by
        have hl : ((frame.enc f0).take q).length = q := by rw [List.length_take, frame.enc_len]; omega
        exact frame.decode_of (e := 0) (l := 0) (k := 0) (b0 := 0) (b1 := 0) (b2 := 0) (b3 := 0) (b4 := 0) (b5 := 0) W ((HO.out.take q).below hb) hb.size hl (by omega) (by omega) (by unfold frame.dec; rw [if_pos (.inl (by omega))]; rfl))
      obtain ⟨d3, h3, HD3⟩ : ∃ d h, Hid (frame.dec (frame.enc f0 ++ x4) = (d, h)) := ⟨_, _, Lib.hid rfl⟩
      have hd3 : n4 = 0 ∨ (((n4 : Int) == 0) = false ∧ d3 = 2) := by
        by_cases h0 : n4 = 0
        · exact .inl h0
        · refine .inr ⟨by simp; exact h0, ?_⟩
          have := frame.dec_short (l := frame.enc f0 ++ x4) (by rw [List.length_append, frame.enc_len, HN.out]; omega)
          rw [HD3.out] at this
          exact this
      obtain ⟨e3, l3, k3, b03, b13, b23, b33, b43, b53⟩ := h3
      have HBR := Lib.hid hbr
      have hql2 : (q : Int) ≤ 72 := by omega
      clear hown hdt hcl hbr HC hcap1 hf hfl hb3 hown3
      rcases b with _ | _ <;> rcases hend with rfl | ⟨hk4, hk5⟩ <;> rcases hd3 with rfl | ⟨hn0, rfl⟩
      all_goals
        go_wp2_with (first
          | ((with_reducible refine Calls.mono HDC.out ?_); rintro e' w4 ⟨rfl, hb4⟩; have hg4 : Below w2.heap.size w2 w4 := HBR.out.trans (hb4.mono HBR.out.size); clear hb4)
          | ((with_reducible refine Calls.mono (HD2.out _ (hg4.alloc hg4.size _)) ?_); rintro e' w5 ⟨rfl, hb5⟩; have hg5 : Below w2.heap.size w2 w5 := (hg4.alloc hg4.size _).trans (hb5.mono (by simp; have := hg4.size; omega)); have hs5 : w2.heap.size ≤ w5.heap.size := hg5.size; have HE6 : Hid (OwnBys ((w5.alloc (.cells #[.int .i64 0, .int .i64 0, .int .i64 0, .int .i64 0, .int .i64 0, .int .i64 0, .int .i64 0, .int .i64 0, .int .i64 0] 24)).alloc (.cells #[] 5)) (w5.heap.size + 1) 5 (some ⟨w5.heap.size + 1, 0, none⟩) 0 0 []) := Lib.hid (by have := OwnBys.new (w := w5.alloc (.cells #[.int .i64 0, .int .i64 0, .int .i64 0, .int .i64 0, .int .i64 0, .int .i64 0, .int .i64 0, .int .i64 0, .int .i64 0] 24)) (t := 5) (cs := #[]) (n := 0) (Nat.le_refl _) [] rfl (by simp) rfl (by unfold maxLen; omega); simpa using this); clear hb5)
          | (at_builtin; refine wpList_append_bys rfl (.tmp 108) (.tmp 109) _ rfl (w5.heap.size + 1) 5 Try.underlying25 hinfo.out rfl HE6.out rfl (HO.out.below ((hg5.alloc hs5 _).alloc (by simp; omega) _)) (frame.enc_len f0) (by omega) (by simp) ?_; intro A2 c2 w6 hown6 hgr6 hat6; have hg6 : Below w2.heap.size w2 w6 := ((hg5.alloc hs5 _).alloc (by simp; omega) _).grown hgr6 (by simp; omega) (by intro g' hgg; simp [Value.ownBlock] at hgg; omega); have hs6 : w5.heap.size + 1 ≤ w6.heap.size := (by have := hgr6.size; simp at this; omega); clear hgr6 hat6; simp only [Nat.zero_add, List.nil_append] at hown6)
          | (at_builtin; refine wpList_append_bys rfl (.tmp 110) (.tmp 111) _ rfl (w5.heap.size + 1) 5 Try.underlying25 hinfo.out rfl hown6 rfl ((HM.out.below hg2).below (hg6.mono hg2.size)) HN.out (by omega) hs6 ?_; intro A3 c3 w7 hown7 hgr7 hat7; have hg7 : Below w2.heap.size w2 w7 := hg6.grown hgr7 (by omega) (by intro g' hgg; have := (hown6.block g' hgg).1; omega); have hcap7 := own_cap hown7; have hlen7 := hown7.len; clear hgr7 hat7)
          | ((refine Calls.mono (frame.decode_of w7 hown7.bys (Nat.le_refl _) hlen7 hcap7.1 (by have := hcap7.2; unfold maxLen at this; omega) HD3.out) ?_); rintro e' w8 ⟨rfl, hb8⟩; have hg8 : Below w2.heap.size w2 w8 := hg7.trans (hb8.mono hg7.size); clear hb8))
        go_ret
        exact ⟨rfl, HBW.out.trans ((hg2.trans ((hg8.alloc hg8.size _).mono hg2.size)).mono (by have := HSZ.out; omega))⟩

set_option maxRecDepth 100000 in
theorem lifted (os : Os) (started : os.Started) (H : Type) (enc : TypeId × Value → H) :
    ReturnsInHanded {} Try.checked os 5 .any (Rows.frameTurnedSpec.pre6 enc Try.prog Try.f5 Rows.frameTurnedRow.domain false) (Rows.frameTurnedSpec.post enc Try.prog Try.f5 false true false false) := by
  refine returnsInHanded_of_change (C := Try.checked) own started (by kernel_rfl) Try.func5
    (ChangeSpec.witness6 (enc := enc) (C := Try.checked) false ⟨#[], #[.agg #[.int .i64 0, .int .i64 0, .int .i64 0, .int .i64 0, .int .i64 0, .int .i64 0, .int .i64 0, .int .i64 0, .int .i64 0], .int .u8 0, .agg #[.int .u8 0, .int .u8 0, .int .u8 0, .int .u8 0], .int .u8 0, .slice none 0 0], []⟩ 8 (by kernel_rfl) (by kernel_rfl) (by kernel_rfl) (by kernel_rfl)) ?_
  intro W base args ds gs before hval0 hW hcnd _
  have hval : ∀ (j : Nat) t v, Try.f5.params[j]? = some t → args[j]? = some v → Value.okWide Try.prog W .any base t v := hval0
  have hW' := hW
  obtain ⟨p, q, hA0, hV, rfl, hfz, hnd⟩ := hW
  have hA : DataW.TrodAll enc Try.prog W 0 (fun _ => true) true Try.f5.params.toList args.toList ds p := hA0
  rw [Try.params5] at hA hval
  obtain ⟨v0, vs0, d0, ds0, p0_, q0, hargs, rfl, rfl, h0, r0⟩ := trodAll_cons hA
  obtain ⟨v1, vs1, d1, ds1, p1_, q1, rfl, rfl, rfl, h1, r1⟩ := trodAll_cons r0
  obtain ⟨v2, vs2, d2, ds2, p2_, q2, rfl, rfl, rfl, h2, r2⟩ := trodAll_cons r1
  obtain ⟨v3, vs3, d3, ds3, p3_, q3, rfl, rfl, rfl, h3, r3⟩ := trodAll_cons r2
  obtain ⟨v4, vs4, d4, ds4, p4_, q4, rfl, rfl, rfl, h4, r4⟩ := trodAll_cons r3
  obtain ⟨rfl, rfl, rfl⟩ := trodAll_nil r4
  obtain rfl : args = #[v0, v1, v2, v3, v4] := by cases args; simp_all
  obtain ⟨rfl, rfl⟩ := trodVars_none hV
  obtain ⟨cs0, rfl, hsz0⟩ := okWide_struct Try.underlying24 (hval 0 24 v0 rfl rfl)
  have k0 := h0
  have lt0 : ∀ x ∈ p0_, x.block < W.heap.size := by obtain ⟨m, hm⟩ := k0; exact DataW.trod_lt m _ _ _ hm
  obtain ⟨x0, w0⟩ := of_arg of_frame k0
  obtain ⟨a1, rfl, rfl, rfl, w1⟩ := open_int Try.underlying5 (hval 1 5 v1 rfl rfl) h1
  obtain ⟨cs2, rfl, hsz2⟩ := okWide_array Try.underlying38 (hval 2 38 v2 rfl rfl)
  have k2 := h2
  have lt2 : ∀ x ∈ p2_, x.block < W.heap.size := by obtain ⟨m, hm⟩ := k2; exact DataW.trod_lt m _ _ _ hm
  obtain ⟨x2, w2⟩ := of_arg (of_arr (n := 4) (size := 1) (of_int Try.underlying5) Try.underlying38 (by kernel_rfl) (by kernel_rfl)) k2
  obtain ⟨a3, rfl, rfl, rfl, w3⟩ := open_int Try.underlying5 (hval 3 5 v3 rfl rfl) h3
  obtain ⟨p4, n4, c4, rfl⟩ := okWide_slice Try.underlying25 (hval 4 25 v4 rfl rfl)
  have k4 := h4
  have lt4 : ∀ x ∈ p4_, x.block < W.heap.size := by obtain ⟨m, hm⟩ := k4; exact DataW.trod_lt m _ _ _ hm
  obtain ⟨x4, w4⟩ := of_arg (of_bytes Try.underlying25 Try.underlying5 (by kernel_rfl)) k4
  clear hA0 hval0
  refine (walk cs0 x0 a1 cs2 x2 a3 p4 n4 c4 x4 W w0 w1 w2 w3 w4).mono fun e W' ⟨he, bel⟩ => ?_
  subst he
  exact ⟨_, rfl, _, _, _, [], _, [], hW', trodAll_mk1 (shut_bool Try.underlying4 _), (trodAll_cons_mk (Below.trod laidOut (by kernel_rfl) (of_decide_eq_true (by kernel_rfl)) k0 bel lt0) (trodAll_cons_mk (shut_int Try.underlying5 w1) (trodAll_cons_mk (Below.trod laidOut (by kernel_rfl) (of_decide_eq_true (by kernel_rfl)) k2 bel lt2) (trodAll_cons_mk (shut_int Try.underlying5 w3) (trodAll_cons_mk (Below.trod laidOut (by kernel_rfl) (of_decide_eq_true (by kernel_rfl)) k4 bel lt4) trodAll_mk0))))), rfl, bel.frame _, fun h => by cases h⟩

theorem over : Rows.frameTurnedRow.holds Try.pinned (OpenSpec.ofChange Rows.frameTurnedSpec) :=
  OpenClaim.holds_of_wide 5 Try.f5 rfl rfl rfl rfl rfl rfl rfl ⟨rfl, rfl, rfl, rfl, rfl⟩ rfl rfl rfl rfl rfl (by kernel_rfl) Try.func5 (by kernel_rfl)
    (of_decide_eq_true (by kernel_rfl)) (by unfold Func.isWrapper; first | (rw [if_pos (by decide +kernel)]; kernel_rfl) | (rw [if_neg (by decide +kernel)]; exact ⟨rfl, rfl⟩))
    (fun os started H enc _ => lifted os started H enc)

theorem proved : Rows.FrameTurnedSaid := over
#print axioms proved
end Go.Proofs.Ytnfdoiaidkkkeaa.frameTurned
