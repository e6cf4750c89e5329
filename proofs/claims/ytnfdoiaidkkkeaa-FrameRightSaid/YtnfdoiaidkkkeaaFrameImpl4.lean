/-
  Contracts of package frame's Decode, of any bytes; the fixed answer of layer 4.
-/
import Derived.Test.YtnfdoiaidkkkeaaFrameImpl3
namespace Go.Proofs.Ytnfdoiaidkkkeaa.frame
open Go.RowKit Go.Proofs.Ytnfdoiaidkkkeaa
set_option linter.unusedVariables false

theorem decode_head (b off cap v : Nat) (bs : List Nat) (w : World) (hx : Bys w w.heap.size (some ⟨b, off, none⟩) bs) (hn : bs.length = 72) (hc : 72 ≤ cap) (hcm : cap ≤ 9223372036854775807) (h0 : num (seg bs 0 4) = v) (hv : v ≠ 72) :
    Calls Try.prog 11 #[.slice (some ⟨b, off, none⟩) 72 cap] w (Decoded (dec bs) w) := by
  have hd : dec bs = (2, zero) := by unfold dec; rw [if_pos (.inr (by omega))]
  rw [hd]
  have HN0 : Hid (∀ W c, Below w.heap.size w W → Calls Try.prog 19 #[.slice (some ⟨b, off, none⟩) 4 c] W fun e w' => e = .returned (.int .u64 (v : Int)) ∧ W = w') := Lib.hid (fun W c hb => number_seg hx hn 0 4 v (by omega) (by omega) h0 off c rfl W hb)
  have ht : ((v : Int) != 72) = true := by simp; omega
  clear hd hn h0 hv hx
  go_enter Try.func11, Try.ntmps11
  go_wp2_with ((with_reducible refine Calls.mono (HN0.out _ _ ((Below.refl _ _).alloc (Nat.le_refl _) _)) ?_); rintro e1 w1 ⟨rfl, rfl⟩)
  exact bodyPost_ret (v := .tuple #[.agg #[.int .i64 0, .int .i64 0, .int .i64 0, .int .i64 0, .int .i64 0, .int .i64 0, .int .i64 0, .int .i64 0, .int .i64 0], .int .i64 2]) (by simp [results, Try.results11, go_sem]) rfl ⟨rfl, (Below.refl _ _).alloc (Nat.le_refl _) _⟩

theorem decode_any (A : Option Addr) (n cap : Nat) (bs : List Nat) (w : World) (hx : Bys w w.heap.size A bs) (hn : bs.length = n) (hc : n ≤ cap) (hcm : cap ≤ 9223372036854775807) :
    Calls Try.prog 11 #[.slice A n cap] w (Decoded (dec bs) w) := by
  by_cases h : n = 72
  · subst h
    obtain ⟨b, off, c, rfl, _⟩ := hx.at_ (j := 0) (by omega)
    by_cases h0 : num (seg bs 0 4) = 72
    · exact decode_72 b off cap bs w hx hn hc hcm h0
    · exact decode_head b off cap _ bs w hx hn hc hcm rfl h0
  · exact decode_short A n cap bs w hn h
theorem decode_is (A : Option Addr) (n cap B : Nat) (bs : List Nat) (d : Int) (f : Fr) (w : World) (hx : Bys w B A bs) (hB : B ≤ w.heap.size) (hn : bs.length = n) (hc : n ≤ cap) (hcm : cap ≤ 9223372036854775807) (h : dec bs = (d, f)) :
    Calls Try.prog 11 #[.slice A n cap] w fun e w' => e = .returned (.tuple #[.agg (fc f), .int .i64 d]) ∧ Below w.heap.size w w' := by
  have := decode_any A n cap bs w (hx.more hB) hn hc hcm
  rw [h] at this
  exact this

theorem encode_yes_of {e l k b0 b1 b2 b3 b4 b5 : Int} {f : Fr} (h : (⟨e, l, k, b0, b1, b2, b3, b4, b5⟩ : Fr) = f) (hf : f.fine) (hr : right f = true) (W : World) : Calls Try.prog 8 #[.agg #[.int .i64 e, .int .i64 l, .int .i64 k, .int .i64 b0, .int .i64 b1, .int .i64 b2, .int .i64 b3, .int .i64 b4, .int .i64 b5]] W (Encoded f W) := by
  subst h; exact encode_yes ⟨e, l, k, b0, b1, b2, b3, b4, b5⟩ hf W hr
theorem encode_no_of {e l k b0 b1 b2 b3 b4 b5 : Int} {f : Fr} (h : (⟨e, l, k, b0, b1, b2, b3, b4, b5⟩ : Fr) = f) (hr : right f = false) (W : World) : Calls Try.prog 8 #[.agg #[.int .i64 e, .int .i64 l, .int .i64 k, .int .i64 b0, .int .i64 b1, .int .i64 b2, .int .i64 b3, .int .i64 b4, .int .i64 b5]] W fun e w' => e = .returned (.tuple #[.slice none 0 0, .int .i64 1]) ∧ Below W.heap.size W w' := by
  subst h; exact encode_no ⟨e, l, k, b0, b1, b2, b3, b4, b5⟩ W hr
theorem right_of {e l k b0 b1 b2 b3 b4 b5 : Int} {f : Fr} {r : Bool} (h : (⟨e, l, k, b0, b1, b2, b3, b4, b5⟩ : Fr) = f) (hr : right f = r) (W : World) : Calls Try.prog 9 #[.agg #[.int .i64 e, .int .i64 l, .int .i64 k, .int .i64 b0, .int .i64 b1, .int .i64 b2, .int .i64 b3, .int .i64 b4, .int .i64 b5]] W fun e w' => e = .returned (.bool r) ∧ Below W.heap.size W w' := by
  subst h; exact right_is ⟨e, l, k, b0, b1, b2, b3, b4, b5⟩ r W hr
theorem decode_of {A : Option Addr} {n cap B : Nat} {bs : List Nat} {d : Int} {e l k b0 b1 b2 b3 b4 b5 : Int} (W : World) (hx : Bys W B A bs) (hB : B ≤ W.heap.size) (hn : bs.length = n) (hc : n ≤ cap) (hcm : cap ≤ 9223372036854775807) (h : dec bs = (d, ⟨e, l, k, b0, b1, b2, b3, b4, b5⟩)) :
    Calls Try.prog 11 #[.slice A n cap] W fun e' w' => e' = .returned (.tuple #[.agg #[.int .i64 e, .int .i64 l, .int .i64 k, .int .i64 b0, .int .i64 b1, .int .i64 b2, .int .i64 b3, .int .i64 b4, .int .i64 b5], .int .i64 d]) ∧ Below W.heap.size W w' := decode_is A n cap B bs d ⟨e, l, k, b0, b1, b2, b3, b4, b5⟩ W hx hB hn hc hcm h
theorem eq_of {e l k b0 b1 b2 b3 b4 b5 e' l' k' b0' b1' b2' b3' b4' b5' : Int} {f g : Fr} {r : Bool} (h : (⟨e, l, k, b0, b1, b2, b3, b4, b5⟩ : Fr) = f) (h' : (⟨e', l', k', b0', b1', b2', b3', b4', b5'⟩ : Fr) = g) (hf : f.fine) (hg : g.fine) (hr : decide (f = g) = r) (W : World) :
    (Op.equalIn 10000 24 (.agg #[.int .i64 e, .int .i64 l, .int .i64 k, .int .i64 b0, .int .i64 b1, .int .i64 b2, .int .i64 b3, .int .i64 b4, .int .i64 b5]) (.agg #[.int .i64 e', .int .i64 l', .int .i64 k', .int .i64 b0', .int .i64 b1', .int .i64 b2', .int .i64 b3', .int .i64 b4', .int .i64 b5'])).run Try.prog W = .ok r W := by
  subst h h'
  rw [← hr]
  exact run_eq9 ⟨e, l, k, b0, b1, b2, b3, b4, b5⟩ ⟨e', l', k', b0', b1', b2', b3', b4', b5'⟩ hf hg W

theorem awake_any (w : World) : Calls Try.prog 6 #[] w fun e w' => e = .returned (.bool true) ∧ Below w.heap.size w w' := by
  have hf1 : (⟨1, 2, 4, -1, 0, 3, 0, 0, 0⟩ : Fr).fine := by simp [Fr.fine, inR]
  have HE1 : Hid (∀ W, Calls Try.prog 8 #[.agg #[.int .i64 1, .int .i64 2, .int .i64 4, .int .i64 (-1), .int .i64 0, .int .i64 3, .int .i64 0, .int .i64 0, .int .i64 0]] W (Encoded ⟨1, 2, 4, -1, 0, 3, 0, 0, 0⟩ W)) := Lib.hid (fun W => encode_yes ⟨1, 2, 4, -1, 0, 3, 0, 0, 0⟩ hf1 W rfl)
  have HE2 : Hid (∀ W, Calls Try.prog 8 #[.agg #[.int .i64 1, .int .i64 2, .int .i64 0, .int .i64 0, .int .i64 0, .int .i64 0, .int .i64 0, .int .i64 0, .int .i64 0]] W fun e w' => e = .returned (.tuple #[.slice none 0 0, .int .i64 1]) ∧ Below W.heap.size W w') := Lib.hid (fun W => encode_no ⟨1, 2, 0, 0, 0, 0, 0, 0, 0⟩ W rfl)
  have HR : Hid (∀ W, Calls Try.prog 9 #[.agg #[.int .i64 1, .int .i64 2, .int .i64 4, .int .i64 (-1), .int .i64 0, .int .i64 3, .int .i64 0, .int .i64 0, .int .i64 0]] W fun e w' => e = .returned (.bool true) ∧ Below W.heap.size W w') := Lib.hid (fun W => right_is ⟨1, 2, 4, -1, 0, 3, 0, 0, 0⟩ true W rfl)
  have HD : Hid (∀ W g B, Bys W B (some ⟨g, 0, none⟩) (enc ⟨1, 2, 4, -1, 0, 3, 0, 0, 0⟩) → B ≤ W.heap.size → Calls Try.prog 11 #[.slice (some ⟨g, 0, none⟩) 72 72] W fun e w' => e = .returned (.tuple #[.agg #[.int .i64 1, .int .i64 2, .int .i64 4, .int .i64 (-1), .int .i64 0, .int .i64 3, .int .i64 0, .int .i64 0, .int .i64 0], .int .i64 0]) ∧ Below W.heap.size W w') :=
    Lib.hid (fun W g B hx hB => decode_is _ 72 72 B _ 0 ⟨1, 2, 4, -1, 0, 3, 0, 0, 0⟩ W hx hB (enc_len _) (by omega) (by omega) (dec_enc _ hf1 rfl))
  have heq : ∀ W, (Op.equalIn 10000 24 (.agg #[.int .i64 1, .int .i64 2, .int .i64 4, .int .i64 (-1), .int .i64 0, .int .i64 3, .int .i64 0, .int .i64 0, .int .i64 0]) (.agg #[.int .i64 1, .int .i64 2, .int .i64 4, .int .i64 (-1), .int .i64 0, .int .i64 3, .int .i64 0, .int .i64 0, .int .i64 0])).run Try.prog W = .ok true W := fun W => by
    have := run_eq9 ⟨1, 2, 4, -1, 0, 3, 0, 0, 0⟩ ⟨1, 2, 4, -1, 0, 3, 0, 0, 0⟩ hf1 hf1 W
    rw [decide_eq_true rfl] at this
    exact this
  clear hf1
  have hbw := (Below.refl w.heap.size w).alloc (Nat.le_refl _) (.cells #[.int .i64 1, .int .i64 2, .int .i64 4, .int .i64 (-1), .int .i64 0, .int .i64 3, .int .i64 0, .int .i64 0, .int .i64 0] 24)
  have hxw := heap_alloc_new w (.cells #[.int .i64 1, .int .i64 2, .int .i64 4, .int .i64 (-1), .int .i64 0, .int .i64 3, .int .i64 0, .int .i64 0, .int .i64 0] 24)
  have HBW := Lib.hid hbw
  have HXW := Lib.hid hxw
  clear hbw hxw
  go_enter Try.func6, Try.ntmps6
  go_wp2_with fail
  refine Calls.mono (HE1.out _) ?_
  rintro e w1 ⟨g, rfl, hown, hb1⟩
  have HX1 := Lib.hid (box_cells hb1 (by simp) HXW.out)
  have HB1 := Lib.hid (HBW.out.trans (hb1.mono (by simp)))
  have HO := Lib.hid hown.bys
  clear hb1 hown
  go_wp2_with fail
  refine Calls.mono (HD.out _ g _ HO.out (Nat.le_refl _)) ?_
  rintro e w2 ⟨rfl, hb2⟩
  have hl1 : w.heap.size < w1.heap.size := cell_block (block_cell HX1.out 0 (.int .i64 1) rfl).1
  have hl2 : w1.heap.size ≤ w2.heap.size := hb2.size
  have HX2 := Lib.hid (box_cells hb2 hl1 HX1.out)
  have HB2 := Lib.hid (HB1.out.trans (hb2.mono HB1.out.size))
  clear hb2
  go_wp2_with fail
  refine Calls.mono (HE2.out _) ?_
  rintro e w3 ⟨rfl, hb3⟩
  have HB3 := Lib.hid ((HB2.out.alloc HB2.out.size (.cells #[.int .i64 1, .int .i64 2, .int .i64 4, .int .i64 (-1), .int .i64 0, .int .i64 3, .int .i64 0, .int .i64 0, .int .i64 0] 24)).trans (hb3.mono (by simp; have := HB2.out.size; omega)))
  have hx3 : w3.heap[w.heap.size]? = some (.cells #[.int .i64 1, .int .i64 2, .int .i64 4, .int .i64 (-1), .int .i64 0, .int .i64 3, .int .i64 0, .int .i64 0, .int .i64 0] 24 (0, 0)) := box_cells hb3 (by simp; omega) ((Below.heap_alloc _ _ _ (by omega)).trans HX2.out)
  have hy3 : w3.heap[w2.heap.size]? = some (.cells #[.int .i64 1, .int .i64 2, .int .i64 4, .int .i64 (-1), .int .i64 0, .int .i64 3, .int .i64 0, .int .i64 0, .int .i64 0] 24 (0, 0)) := box_cells hb3 (by simp) (heap_alloc_new w2 _)
  have ka0 : w3.cell? ⟨w.heap.size, 0, none⟩ = some (.int .i64 1) := (block_cell hx3 0 _ rfl).1
  have kb0 : w3.cell? ⟨w2.heap.size, 0, none⟩ = some (.int .i64 1) := (block_cell hy3 0 _ rfl).1
  have ka1 : w3.cell? ⟨w.heap.size, 1, none⟩ = some (.int .i64 2) := (block_cell hx3 1 _ rfl).1
  have kb1 : w3.cell? ⟨w2.heap.size, 1, none⟩ = some (.int .i64 2) := (block_cell hy3 1 _ rfl).1
  have ka2 : w3.cell? ⟨w.heap.size, 2, none⟩ = some (.int .i64 4) := (block_cell hx3 2 _ rfl).1
  have kb2 : w3.cell? ⟨w2.heap.size, 2, none⟩ = some (.int .i64 4) := (block_cell hy3 2 _ rfl).1
  have ka3 : w3.cell? ⟨w.heap.size, 3, none⟩ = some (.int .i64 (-1)) := (block_cell hx3 3 _ rfl).1
  have kb3 : w3.cell? ⟨w2.heap.size, 3, none⟩ = some (.int .i64 (-1)) := (block_cell hy3 3 _ rfl).1
  have ka4 : w3.cell? ⟨w.heap.size, 4, none⟩ = some (.int .i64 0) := (block_cell hx3 4 _ rfl).1
  have kb4 : w3.cell? ⟨w2.heap.size, 4, none⟩ = some (.int .i64 0) := (block_cell hy3 4 _ rfl).1
  have ka5 : w3.cell? ⟨w.heap.size, 5, none⟩ = some (.int .i64 3) := (block_cell hx3 5 _ rfl).1
  have kb5 : w3.cell? ⟨w2.heap.size, 5, none⟩ = some (.int .i64 3) := (block_cell hy3 5 _ rfl).1
  have ka6 : w3.cell? ⟨w.heap.size, 6, none⟩ = some (.int .i64 0) := (block_cell hx3 6 _ rfl).1
  have kb6 : w3.cell? ⟨w2.heap.size, 6, none⟩ = some (.int .i64 0) := (block_cell hy3 6 _ rfl).1
  have ka7 : w3.cell? ⟨w.heap.size, 7, none⟩ = some (.int .i64 0) := (block_cell hx3 7 _ rfl).1
  have kb7 : w3.cell? ⟨w2.heap.size, 7, none⟩ = some (.int .i64 0) := (block_cell hy3 7 _ rfl).1
  have ka8 : w3.cell? ⟨w.heap.size, 8, none⟩ = some (.int .i64 0) := (block_cell hx3 8 _ rfl).1
  have kb8 : w3.cell? ⟨w2.heap.size, 8, none⟩ = some (.int .i64 0) := (block_cell hy3 8 _ rfl).1
  clear hx3 hy3 hb3
  go_wp2_with ((refine Calls.mono (HR.out _) ?_); rintro e w4 ⟨rfl, hb4⟩)
  go_ret
  exact ⟨rfl, HB3.out.trans (hb4.mono HB3.out.size)⟩

end Go.Proofs.Ytnfdoiaidkkkeaa.frame
