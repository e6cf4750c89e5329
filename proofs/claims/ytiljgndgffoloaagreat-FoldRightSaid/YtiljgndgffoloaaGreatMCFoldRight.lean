/-
  PROVED: the law FoldRight answers true at every input, and leaves what it was given as it was.
  CONDITIONS: none.
-/
import Derived.Test.YtiljgndgffoloaaGreatRows
import Derived.WalkKit
import Derived.ProofKit
import Derived.OpenShut
import Derived.ShutString
import Derived.ChangeOld
import Derived.Below
import Derived.Test.YtiljgndgffoloaaGreatMC04
import Derived.Test.YtiljgndgffoloaaGreatMC52
import Derived.Test.YtiljgndgffoloaaGreatMC40
import Derived.Test.YtiljgndgffoloaaGreatMC53
import Derived.Test.YtiljgndgffoloaaGreatMC21
namespace Go.Proofs.YtiljgndgffoloaaGreat.foldRight
open Go.ChangeShapes Go.WideShapes Go.ChangeAt Go.RowKit
open Go.ChangeMaps (open_string shut_string)
open Go.Proofs.YtiljgndgffoloaaGreat Go.Proofs.YtiljgndgffoloaaGreat.book
open Go.Proofs.YtiljgndgffoloaaGreat.order (Or open_ worth oz)
open Go.Proofs.YtiljgndgffoloaaGreat.cell (Ce Ex)
open Go.Proofs.YtiljgndgffoloaaGreat.rec (Rc)
set_option linter.unusedVariables false

theorem own : ownKnob Tryz.prog.godebug = none := by kernel_rfl
theorem laidOut : laidOutB Tryz.prog = true := by kernel_rfl

-- VX BEGINS
set_option maxRecDepth 20000
theorem expos_fine {w : World} {S : Nat → Prop} {v : Sv} {s : St} (h : InS w S v s) {x : Ex} (hx : x ∈ exposV s) : x.fine := by
  cases hr : right s with
  | false => rw [expos_no hr] at hx; cases hx
  | true =>
    rw [expos_yes hr] at hx
    obtain ⟨c, hc, rfl⟩ := List.mem_map.1 hx
    exact cell.of_fine (e := (cell.of_ c).2) (fine_ce h.c _ hc) rfl
theorem walk0 (v : Sv) (s : St) (v2 : Sv) (t : St) (p1 : Option Addr) (c1 : Nat) (l : List Rc)  (w : World) (h : InS w (Lt w.heap.size) v s) (ht : InS w (Lt w.heap.size) v2 t) (hx : Elems rdRec 13 w (Lt w.heap.size) p1 l) (hm : l.length ≤ 9223372036854775807) : Calls Tryz.prog 4 #[.agg (stc v s), .agg (stc v2 t), .slice p1 l.length c1] w fun e w' => e = .returned (.bool true) ∧ Below w.heap.size w w' :=
  have hlen := h.len
  calls_by (fn := Tryz.f4) (r := .bool true) (t := let k0 := (exposV s).length; let k1 : (Option Addr × Nat) → List Fact := fun x => [ownF rdExpo 3 31 x.1 k0 x.2 (exposV s)]; let k2 := Option Addr × Nat; let k3 := ((foldV s l).2.1 : Int); .c (.bool true) (.cs (short s) (.k (.cs (short t) (.k (.s .z (.cm (Dat (fun w S v => InS w S v (foldV s l).1) (Lt w.heap.size) w) (fun x => .tuple #[.agg (stc x.1.2.2 ((foldV s l).1)), .int .i64 k3, .int .i64 ((foldV s l).2.2)]) (fun x => [poolF x.1.1 x.1.2.1]) (fun x4 => .cm (Dat (fun w S v => InS w S v (foldV s l).1) (Lt w.heap.size) w) (fun x => .tuple #[.agg (stc x.1.2.2 ((foldV s l).1)), .int .i64 k3, .int .i64 ((foldV s l).2.2)]) (fun x => [poolF x.1.1 x.1.2.1]) (fun x5 => .o [] (.m false (.k (.m false (.k (.c (.bool true) (.k (.cs (coversV s t) (.c (.bool true) (.k (.o [] (.cm k2 (fun x => .slice x.1 k0 x.2) k1 (fun x7 => .cm k2 (fun x => .slice x.1 k0 x.2) k1 (fun x8 => .m false (.l (Nat) (fun x => [(13, .slice x7.1 k0 x7.2, none), (14, .slice x8.1 k0 x8.2, none), (15, .int .i64 (x : Int), none)]) (fun x => []) [] [] (fun x => [ownF rdExpo 3 31 x8.1 k0 x8.2 (exposV s), ownF rdExpo 3 31 x7.1 k0 x7.2 (exposV s), poolF x5.1.1 x5.1.2.1, poolF x4.1.1 x4.1.2.1]) (fun x => x ≤ (exposV s).length) (fun x => (exposV s).length - x) (0 : Nat) (fun y9 => let k4 := cell.xc ((exposV s).getD y9 xz); .s (.o [] (.q (blkA x7.1) (offA x7.1 + y9 * 3) k4 (.q (blkA x8.1) (offA x8.1 + y9 * 3) k4 (.x (.bool false) (.e (.int .i64 ((y9 + 1 : Nat) : Int)) .z))))) .z)))))))) (.c (.bool false) (.k (.o [] (.cm k2 (fun x => .slice x.1 k0 x.2) k1 (fun x13 => .cm k2 (fun x => .slice x.1 k0 x.2) k1 (fun x14 => .m false (.l (Nat) (fun x => [(13, .slice x13.1 k0 x13.2, none), (14, .slice x14.1 k0 x14.2, none), (15, .int .i64 (x : Int), none)]) (fun x => []) [] [] (fun x => [ownF rdExpo 3 31 x14.1 k0 x14.2 (exposV s), ownF rdExpo 3 31 x13.1 k0 x13.2 (exposV s), poolF x5.1.1 x5.1.2.1, poolF x4.1.1 x4.1.2.1]) (fun x => x ≤ (exposV s).length) (fun x => (exposV s).length - x) (0 : Nat) (fun y15 => let k5 := cell.xc ((exposV s).getD y15 xz); .s (.o [] (.q (blkA x13.1) (offA x13.1 + y15 * 3) k5 (.q (blkA x14.1) (offA x14.1 + y15 * 3) k5 (.x (.bool false) (.e (.int .i64 ((y15 + 1 : Nat) : Int)) .z))))) .z)))))))))))))))))))) (.k .z))) (.k (.k .z)))) (X :=
 let k0 := (exposV s).length; let k1 := ((exposV s).length : Int); let k2 := (.bool true : Value) = .bool true; let k3 : (Option Addr × Nat) → List Fact := fun x => [ownF rdExpo 3 31 x.1 k0 x.2 (exposV s)]; let k4 := ([] : List (Option Blk)); let k5 := ((foldV s l).2.1 : Int); let k6 := Option Addr × Nat; let k7 : Array Value := #[.agg (stc v s), .agg (stc v2 t)]; let k8 : Array Value := #[.agg (stc v s)]; let k9 := (foldV s l).2.2; let k10 := (foldV s l).1; let k11 := (0 : Nat) ≤ (exposV s).length; let k12 := decide ((l.length : Int) > 60); let k13 : Array Value := #[.agg (stc v s), .slice p1 l.length c1]; ∀ g0 : Nat, ∀ g1 : Nat, Gives Tryz.prog w [] 22 #[] (.bool true) ∧ Gives Tryz.prog w [] 6 k8 (.bool (short s)) ∧ ((short s) = true → Gives Tryz.prog w [] 6 #[.agg (stc v2 t)] (.bool (short t)) ∧ ((short t) = true → (k12 = true → k2) ∧ (k12 = false → GivesM Tryz.prog w [] 23 k13 (Dat (fun w S v => InS w S v (foldV s l).1) (Lt w.heap.size) w) (fun x => .tuple #[.agg (stc x.1.2.2 k10), .int .i64 k5, .int .i64 k9]) (fun x => [poolF x.1.1 x.1.2.1]) ∧ ∀ x4 : Dat (fun w S v => InS w S v (foldV s l).1) (Lt w.heap.size) w, ∀ g2 : Nat, GivesM Tryz.prog w [poolF x4.1.1 x4.1.2.1] 24 k13 (Dat (fun w S v => InS w S v (foldV s l).1) (Lt w.heap.size) w) (fun x => .tuple #[.agg (stc x.1.2.2 k10), .int .i64 k5, .int .i64 k9]) (fun x => [poolF x.1.1 x.1.2.1]) ∧ ∀ x5 : Dat (fun w S v => InS w S v (foldV s l).1) (Lt w.heap.size) w,let k14 : List Fact := [poolF x5.1.1 x5.1.2.1, poolF x4.1.1 x4.1.2.1];  ∀ g3 : Nat, (!decide (k5 = k5)) = false ∧ (!decide (k9 = k9)) = false ∧ Gives Tryz.prog w k14 12 #[.agg (stc x4.1.2.2 k10), .agg (stc x5.1.2.2 k10)] (.bool true) ∧ Gives Tryz.prog w k14 25 k7 (.bool (coversV s t)) ∧ ((coversV s t) = true → Gives Tryz.prog w k14 26 k7 (.bool true) ∧ GivesM Tryz.prog w k14 27 k8 k6 (fun x => .slice x.1 k0 x.2) k3 ∧ ∀ x7 : Option Addr × Nat, GivesM Tryz.prog w [ownF rdExpo 3 31 x7.1 k0 x7.2 (exposV s), poolF x5.1.1 x5.1.2.1, poolF x4.1.1 x4.1.2.1] 28 k8 k6 (fun x => .slice x.1 k0 x.2) k3 ∧ ∀ x8 : Option Addr × Nat, let k15 : List Fact := [ownF rdExpo 3 31 x8.1 k0 x8.2 (exposV s), ownF rdExpo 3 31 x7.1 k0 x7.2 (exposV s), poolF x5.1.1 x5.1.2.1, poolF x4.1.1 x4.1.2.1]; (!decide (k1 = k1)) = false ∧ Brings w k15 [] ∧ k11 ∧ (([.slice x7.1 k0 x7.2, .slice x8.1 k0 x8.2, .int .i64 0] : List Value) = [.slice x7.1 k0 x7.2, .slice x8.1 k0 x8.2, .int .i64 ((0 : Nat) : Int)] ∧ k4 = [] ∧ Turns w k15 k15) ∧ true = true ∧ ∀ (y9 : Nat), let k16 := cell.xc ((exposV s).getD y9 xz); let k17 := decide ((y9 : Int) < k1); (y9 ≤ (exposV s).length) → ∀ τ11 : Nat → Value, (k17 = true → Yields0 Tryz.prog w k15 (Instr.indexAt 24 (.slice x7.1 k0 x7.2) (.int .i64 (y9 : Int))) (.pointer (some ⟨blkA x7.1, offA x7.1 + y9 * 3, none⟩)) ∧ Reads0 w k15 (blkA x7.1) (offA x7.1 + y9 * 3) k16 ∧ Yields0 Tryz.prog w k15 (Instr.indexAt 24 (.slice x8.1 k0 x8.2) (.int .i64 (y9 : Int))) (.pointer (some ⟨blkA x8.1, offA x8.1 + y9 * 3, none⟩)) ∧ Reads0 w k15 (blkA x8.1) (offA x8.1 + y9 * 3) k16 ∧ Yields0 Tryz.prog w k15 (do eqGuard BinOp.neq 31 (.tmp 86) (.tmp 90) (.agg k16) (.agg k16); Go.binOp BinOp.neq 31 (.agg k16) (.agg k16)) (.bool false) ∧ (.int .i64 (IntKind.i64.wrap ((y9 : Int) + 1)) : Value) = .int .i64 ((y9 + 1 : Nat) : Int) ∧ ∃ x' : Nat, (x' ≤ (exposV s).length) ∧ ((exposV s).length - x' < (exposV s).length - y9) ∧ (([.slice x7.1 k0 x7.2, .slice x8.1 k0 x8.2, .int .i64 ((y9 + 1 : Nat) : Int)] : List Value) = [.slice x7.1 k0 x7.2, .slice x8.1 k0 x8.2, .int .i64 (x' : Int)] ∧ k4 = [] ∧ Turns w k15 k15) ∧ true = true) ∧ (k17 = false → k2)) ∧ ((coversV s t) = false → Gives Tryz.prog w k14 26 k7 (.bool false) ∧ GivesM Tryz.prog w k14 27 k8 k6 (fun x => .slice x.1 k0 x.2) k3 ∧ ∀ x13 : Option Addr × Nat, GivesM Tryz.prog w [ownF rdExpo 3 31 x13.1 k0 x13.2 (exposV s), poolF x5.1.1 x5.1.2.1, poolF x4.1.1 x4.1.2.1] 28 k8 k6 (fun x => .slice x.1 k0 x.2) k3 ∧ ∀ x14 : Option Addr × Nat, let k18 : List Fact := [ownF rdExpo 3 31 x14.1 k0 x14.2 (exposV s), ownF rdExpo 3 31 x13.1 k0 x13.2 (exposV s), poolF x5.1.1 x5.1.2.1, poolF x4.1.1 x4.1.2.1]; (!decide (k1 = k1)) = false ∧ Brings w k18 [] ∧ k11 ∧ (([.slice x13.1 k0 x13.2, .slice x14.1 k0 x14.2, .int .i64 0] : List Value) = [.slice x13.1 k0 x13.2, .slice x14.1 k0 x14.2, .int .i64 ((0 : Nat) : Int)] ∧ k4 = [] ∧ Turns w k18 k18) ∧ true = true ∧ ∀ (y15 : Nat), let k19 := cell.xc ((exposV s).getD y15 xz); let k20 := decide ((y15 : Int) < k1); (y15 ≤ (exposV s).length) → ∀ τ17 : Nat → Value, (k20 = true → Yields0 Tryz.prog w k18 (Instr.indexAt 24 (.slice x13.1 k0 x13.2) (.int .i64 (y15 : Int))) (.pointer (some ⟨blkA x13.1, offA x13.1 + y15 * 3, none⟩)) ∧ Reads0 w k18 (blkA x13.1) (offA x13.1 + y15 * 3) k19 ∧ Yields0 Tryz.prog w k18 (Instr.indexAt 24 (.slice x14.1 k0 x14.2) (.int .i64 (y15 : Int))) (.pointer (some ⟨blkA x14.1, offA x14.1 + y15 * 3, none⟩)) ∧ Reads0 w k18 (blkA x14.1) (offA x14.1 + y15 * 3) k19 ∧ Yields0 Tryz.prog w k18 (do eqGuard BinOp.neq 31 (.tmp 86) (.tmp 90) (.agg k19) (.agg k19); Go.binOp BinOp.neq 31 (.agg k19) (.agg k19)) (.bool false) ∧ (.int .i64 (IntKind.i64.wrap ((y15 : Int) + 1)) : Value) = .int .i64 ((y15 + 1 : Nat) : Int) ∧ ∃ x' : Nat, (x' ≤ (exposV s).length) ∧ ((exposV s).length - x' < (exposV s).length - y15) ∧ (([.slice x13.1 k0 x13.2, .slice x14.1 k0 x14.2, .int .i64 ((y15 + 1 : Nat) : Int)] : List Value) = [.slice x13.1 k0 x13.2, .slice x14.1 k0 x14.2, .int .i64 (x' : Int)] ∧ k4 = [] ∧ Turns w k18 k18) ∧ true = true) ∧ (k20 = false → k2)))) ∧ ((short t) = false → k2)) ∧ ((short s) = false → k2)) Tryz.func4 (by kernel_rfl)
  (fun g0 => fun g1 => ⟨gives awake11, ⟨i_short, fun h1 => ⟨i_short, fun h2 => ⟨fun h3 => have h3 : 60 < (l.length : Int) := (by simpa using h3)
 rfl,
 fun h3 => have h3 : ¬ 60 < (l.length : Int) := (by simpa using h3)
⟨i_fold (fixed_low (fun k hk => hk)) (fun w hw _ => h.below hw) (fun w hw _ => hx.keep keeps_rec (fun b o hb => hw.cell (p := ⟨b, o, none⟩) hb) (fun _ h => Nat.lt_of_lt_of_le h hw.size)) (by omega), fun x4 => fun g2 => ⟨i_rfold (fixed_low (fun k hk => hk)) (fun w hw _ => h.below hw) (fun w hw _ => hx.keep keeps_rec (fun b o hb => hw.cell (p := ⟨b, o, none⟩) hb) (fun _ h => Nat.lt_of_lt_of_le h hw.size)) (by omega), fun x5 => fun g3 => ⟨by simp, ⟨by simp, ⟨gives_b (decide_eq_true rfl) (i_same (dat_lt x4 (fixed_low (fun k hk => hk)) (i := 1) rfl) (dat_lt x5 (fixed_low (fun k hk => hk)) (i := 0) rfl)), ⟨i_cov (all_lt h) (all_lt ht), fun h6 => ⟨gives_b h6 ((fun w hw ha => rcovers _ _ _ _ w ((all_lt h) w hw ha) ((all_lt ht) w hw ha))), ⟨(fun w hw ha => lexpos _ _ w ((all_lt h) w hw ha)), fun x7 => ⟨(fun w hw ha => rexpos _ _ w ((all_lt h) w hw ha)), fun x8 => ⟨by simp, ⟨(fun w _ _ => news_nil), (Nat.zero_le _), ⟨rfl, rfl, (turns_sub (.cons_cons _ (.cons_cons _ (.cons_cons _ (.cons_cons _ (List.nil_sublist _))))))⟩, rfl, fun y9 I10 τ11 => ⟨fun h12 => have h12 : (y9 : Int) < ((exposV s).length : Int) := (by simpa using h12)
⟨(own_index Tryz.underlying24 info_expo (row_at (j := 1) rfl) (by omega)), (own_reads keeps_expo (by decide) expo_cells (row_at (j := 1) rfl) (at_getD (by omega))), ⟨(own_index Tryz.underlying24 info_expo (row_at (j := 0) rfl) (by omega)), (own_reads keeps_expo (by decide) expo_cells (row_at (j := 0) rfl) (at_getD (by omega))), ⟨(ne_self (neq_agg (by kernel_rfl) (cell.run_eq3 ((exposV s).getD y9 xz) ((exposV s).getD y9 xz) (expos_fine h (getD_mem (z := xz) (by omega))) (expos_fine h (getD_mem (z := xz) (by omega)))) _ _)), ⟨wrap_is (by omega) (by omega) (by have := expos_le s; omega), ⟨((y9 + 1) : Nat), (by omega), (by omega), ⟨rfl, rfl, (turns_sub (.cons_cons _ (.cons_cons _ (.cons_cons _ (.cons_cons _ (List.nil_sublist _))))))⟩, rfl⟩⟩⟩⟩⟩,
 fun h12 => have h12 : ¬ (y9 : Int) < ((exposV s).length : Int) := (by simpa using h12)
 rfl⟩⟩⟩⟩⟩⟩,
 fun h6 => ⟨gives_b h6 ((fun w hw ha => rcovers _ _ _ _ w ((all_lt h) w hw ha) ((all_lt ht) w hw ha))), ⟨(fun w hw ha => lexpos _ _ w ((all_lt h) w hw ha)), fun x13 => ⟨(fun w hw ha => rexpos _ _ w ((all_lt h) w hw ha)), fun x14 => ⟨by simp, ⟨(fun w _ _ => news_nil), (Nat.zero_le _), ⟨rfl, rfl, (turns_sub (.cons_cons _ (.cons_cons _ (.cons_cons _ (.cons_cons _ (List.nil_sublist _))))))⟩, rfl, fun y15 I16 τ17 => ⟨fun h18 => have h18 : (y15 : Int) < ((exposV s).length : Int) := (by simpa using h18)
⟨(own_index Tryz.underlying24 info_expo (row_at (j := 1) rfl) (by omega)), (own_reads keeps_expo (by decide) expo_cells (row_at (j := 1) rfl) (at_getD (by omega))), ⟨(own_index Tryz.underlying24 info_expo (row_at (j := 0) rfl) (by omega)), (own_reads keeps_expo (by decide) expo_cells (row_at (j := 0) rfl) (at_getD (by omega))), ⟨(ne_self (neq_agg (by kernel_rfl) (cell.run_eq3 ((exposV s).getD y15 xz) ((exposV s).getD y15 xz) (expos_fine h (getD_mem (z := xz) (by omega))) (expos_fine h (getD_mem (z := xz) (by omega)))) _ _)), ⟨wrap_is (by omega) (by omega) (by have := expos_le s; omega), ⟨((y15 + 1) : Nat), (by omega), (by omega), ⟨rfl, rfl, (turns_sub (.cons_cons _ (.cons_cons _ (.cons_cons _ (.cons_cons _ (List.nil_sublist _))))))⟩, rfl⟩⟩⟩⟩⟩,
 fun h18 => have h18 : ¬ (y15 : Int) < ((exposV s).length : Int) := (by simpa using h18)
 rfl⟩⟩⟩⟩⟩⟩⟩⟩⟩⟩⟩⟩⟩,
 fun h2 => rfl⟩,
 fun h1 => rfl⟩⟩)
-- VX ENDS
theorem walk (cs0 : Array Value) (x0 : StateD) (cs1 : Array Value) (x1 : StateD) (p2 : Option Addr) (n2 c2 : Nat) (x2 : List (RecD)) (w : World) (w0 : rdState w (Lt w.heap.size) cs0.toList x0) (w1 : rdState w (Lt w.heap.size) cs1.toList x1) (w2 : (rdSlice rdRec 13) w (Lt w.heap.size) [.slice p2 n2 c2] x2) :
    Calls Tryz.prog 4 #[.agg cs0, .agg cs1, .slice p2 n2 c2] w fun e w' => e = .returned (.bool true) ∧ Below w.heap.size w w' := by
  obtain ⟨v0, e0, h0⟩ := w0
  obtain rfl : cs0 = stc v0 x0 := by apply Array.toList_inj.1; exact e0
  obtain ⟨v1, e1, h1⟩ := w1
  obtain rfl : cs1 = stc v1 x1 := by apply Array.toList_inj.1; exact e1
  obtain ⟨A2, m2, q2, e2, hx2, hl2, hc2, hm2⟩ := w2
  obtain ⟨rfl, rfl, rfl⟩ : p2 = A2 ∧ n2 = m2 ∧ c2 = q2 := by simpa using e2
  subst hl2
  exact walk0 v0 x0 v1 x1 p2 c2 x2 w h0 h1 hx2 (by unfold maxLen at hm2; omega)

set_option maxRecDepth 100000 in
theorem lifted (os : Os) (started : os.Started) (H : Type) (enc : TypeId × Value → H) :
    ReturnsInHanded {} Tryz.checked os 4 .any (Rows.foldRightSpec.pre6 enc Tryz.prog Tryz.f4 Rows.foldRightRow.domain false) (Rows.foldRightSpec.post enc Tryz.prog Tryz.f4 false true false false) := by
  refine returnsInHanded_of_change (C := Tryz.checked) own started (by kernel_rfl) Tryz.func4
    (ChangeSpec.witness6 (enc := enc) (C := Tryz.checked) false ⟨#[], #[.agg #[.int .i64 0, .int .i64 0, .slice none 0 0, .slice none 0 0, .slice none 0 0, .slice none 0 0, .bool false, .int .i64 0, .int .i64 0, .int .i64 0], .agg #[.int .i64 0, .int .i64 0, .slice none 0 0, .slice none 0 0, .slice none 0 0, .slice none 0 0, .bool false, .int .i64 0, .int .i64 0, .int .i64 0], .slice none 0 0], []⟩ 8 (by kernel_rfl) (by kernel_rfl) (by kernel_rfl) (by kernel_rfl)) ?_
  intro W base args ds gs before hval0 hW hcnd _
  have hval : ∀ (j : Nat) t v, Tryz.f4.params[j]? = some t → args[j]? = some v → Value.okWide Tryz.prog W .any base t v := hval0
  have hW' := hW
  obtain ⟨p, q, hA0, hV, rfl, hfz, hnd⟩ := hW
  have hA : DataW.TrodAll enc Tryz.prog W 0 (fun _ => true) true Tryz.f4.params.toList args.toList ds p := hA0
  rw [Tryz.params4] at hA hval
  obtain ⟨v0, vs0, d0, ds0, p0_, q0, hargs, rfl, rfl, h0, r0⟩ := trodAll_cons hA
  obtain ⟨v1, vs1, d1, ds1, p1_, q1, rfl, rfl, rfl, h1, r1⟩ := trodAll_cons r0
  obtain ⟨v2, vs2, d2, ds2, p2_, q2, rfl, rfl, rfl, h2, r2⟩ := trodAll_cons r1
  obtain ⟨rfl, rfl, rfl⟩ := trodAll_nil r2
  obtain rfl : args = #[v0, v1, v2] := by cases args; simp_all
  obtain ⟨rfl, rfl⟩ := trodVars_none hV
  obtain ⟨cs0, rfl, hsz0⟩ := okWide_struct Tryz.underlying27 (hval 0 27 v0 rfl rfl)
  have k0 := h0
  have lt0 : ∀ x ∈ p0_, x.block < W.heap.size := by obtain ⟨m, hm⟩ := k0; exact DataW.trod_lt m _ _ _ hm
  obtain ⟨x0, w0⟩ := of_arg of_state k0
  obtain ⟨cs1, rfl, hsz1⟩ := okWide_struct Tryz.underlying27 (hval 1 27 v1 rfl rfl)
  have k1 := h1
  have lt1 : ∀ x ∈ p1_, x.block < W.heap.size := by obtain ⟨m, hm⟩ := k1; exact DataW.trod_lt m _ _ _ hm
  obtain ⟨x1, w1⟩ := of_arg of_state k1
  obtain ⟨p2, n2, c2, rfl⟩ := okWide_slice Tryz.underlying55 (hval 2 55 v2 rfl rfl)
  have k2 := h2
  have lt2 : ∀ x ∈ p2_, x.block < W.heap.size := by obtain ⟨m, hm⟩ := k2; exact DataW.trod_lt m _ _ _ hm
  obtain ⟨x2, w2⟩ := of_arg (of_slice (size := 13) of_rec Tryz.underlying55 (by kernel_rfl) (by decide)) k2
  clear hA0 hval0
  refine (walk cs0 x0 cs1 x1 p2 n2 c2 x2 W w0 w1 w2).mono fun e W' ⟨he, bel⟩ => ?_
  subst he
  exact ⟨_, rfl, _, _, _, [], _, [], hW', trodAll_mk1 (shut_bool Tryz.underlying4 _), (trodAll_cons_mk (Below.trod laidOut (by kernel_rfl) (of_decide_eq_true (by kernel_rfl)) k0 bel lt0) (trodAll_cons_mk (Below.trod laidOut (by kernel_rfl) (of_decide_eq_true (by kernel_rfl)) k1 bel lt1) (trodAll_cons_mk (Below.trod laidOut (by kernel_rfl) (of_decide_eq_true (by kernel_rfl)) k2 bel lt2) trodAll_mk0))), rfl, bel.frame _, fun h => by cases h⟩

theorem over : Rows.foldRightRow.holds Tryz.pinned (OpenSpec.ofChange Rows.foldRightSpec) :=
  OpenClaim.holds_of_wide 4 Tryz.f4 rfl rfl rfl rfl rfl rfl rfl ⟨rfl, rfl, rfl, rfl, rfl⟩ rfl rfl rfl rfl rfl (by kernel_rfl) Tryz.func4 (by kernel_rfl)
    (of_decide_eq_true (by kernel_rfl)) (by unfold Func.isWrapper; first | (rw [if_pos (by decide +kernel)]; kernel_rfl) | (rw [if_neg (by decide +kernel)]; exact ⟨rfl, rfl⟩))
    (fun os started H enc _ => lifted os started H enc)

theorem proved : Rows.FoldRightSaid := over
#print axioms proved
end Go.Proofs.YtiljgndgffoloaaGreat.foldRight
