/-
  FoldG, Awake11
-/
import Derived.Test.YtiljgndgffoloaaGreatMC39
import Derived.Test.YtiljgndgffoloaaGreatMC31
import Derived.Test.YtiljgndgffoloaaGreatMC04
import Derived.Test.YtiljgndgffoloaaGreatMC37
section
namespace Go.Proofs.YtiljgndgffoloaaGreat.book
open Go.RowKit Go.Proofs.YtiljgndgffoloaaGreat
open Go.Proofs.YtiljgndgffoloaaGreat.order (Or open_ worth oz)
open Go.Proofs.YtiljgndgffoloaaGreat.cell (Ce Ex)
open Go.Proofs.YtiljgndgffoloaaGreat.rec (Rc)
set_option linter.unusedVariables false
section
variable {w0 : World} {D : List Fact} {v u : Sv} {s t : St} {l : List Rc} {A : Option Addr} {c : Nat}
theorem i_fold {S : Nat → Prop} {W : World} (hd : Fixed w0 D S W) (hs : ∀ w, Below w0.heap.size w0 w → All D w → InS w S v s) (hx : ∀ w, Below w0.heap.size w0 w → All D w → Elems rdRec 13 w (Lt w.heap.size) A l) (hm : l.length ≤ 1000000) :
    GivesM Tryz.prog w0 D 23 #[.agg (stc v s), .slice A l.length c] (Dat (fun w S v => InS w S v (foldV s l).1) S W) (fun x => .tuple #[.agg (stc x.1.2.2 (foldV s l).1), .int .i64 ((foldV s l).2.1 : Int), .int .i64 (foldV s l).2.2]) (fun x => [poolF x.1.1 x.1.2.1]) :=
  gives_dat (R := fun w S v => InS w S v (foldV s l).1) (r := fun b => .tuple #[.agg (stc b (foldV s l).1), .int .i64 ((foldV s l).2.1 : Int), .int .i64 (foldV s l).2.2]) hd (fun w hw ha => lfold v s A c l S w (hs w hw ha) (hd w hw ha).2 (hx w hw ha) hm)
theorem i_expos (hs : ∀ w, Below w0.heap.size w0 w → All D w → InS w (Lt w.heap.size) v s) : GivesM Tryz.prog w0 D 27 #[.agg (stc v s)] (Option Addr × Nat) (fun x => .slice x.1 (exposV s).length x.2) (fun x => [ownF rdExpo 3 31 x.1 (exposV s).length x.2 (exposV s)]) := fun w hw ha => lexpos v s w (hs w hw ha)
theorem i_cov (hs : ∀ w, Below w0.heap.size w0 w → All D w → InS w (Lt w.heap.size) v s) (ht : ∀ w, Below w0.heap.size w0 w → All D w → InS w (Lt w.heap.size) u t) : Gives Tryz.prog w0 D 25 #[.agg (stc v s), .agg (stc u t)] (.bool (coversV s t)) := fun w hw ha => lcovers v u s t w (hs w hw ha) (ht w hw ha)
end
/-- a row that stands in a block as it was laid. -/
theorem elems_block {w : World} {g : Nat} {cs : Array Value} {T : TypeId} {xs : List Rc} (h : w.heap[g]? = some (.cells cs T (0, 0))) (hc : cs.toList = xs.flatMap (fun x => (rec.rc x).toList)) (hf : ∀ x ∈ xs, x.fine) : Elems rdRec 13 w (Lt w.heap.size) (some ⟨g, 0, none⟩) xs := fun _ => by
  refine ⟨g, 0, rfl, (Array.getElem?_eq_some_iff.1 h).1, fun j x hx => ⟨(rec.rc x).toList, rfl, fun i c hic => ?_, rfl, hf x (List.mem_of_getElem? hx)⟩⟩
  have hi : i < 13 := by
    have := (List.getElem?_eq_some_iff.1 hic).1
    simpa [rec.rc] using this
  refine (block_cell h (0 + j * 13 + i) c ?_).1
  rw [← Array.getElem?_toList, hc, Nat.zero_add]
  clear hc h hf
  rename_i h0
  clear h0
  induction xs generalizing j with
  | nil => simp at hx
  | cons y ys ih =>
    cases j with
    | zero =>
      simp only [List.getElem?_cons_zero, Option.some.injEq] at hx
      subst hx
      rw [List.flatMap_cons, List.getElem?_append_left (by simp [rec.rc]; omega), Nat.zero_mul, Nat.zero_add]
      exact hic
    | succ j =>
      rw [List.flatMap_cons, List.getElem?_append_right (by simp [rec.rc]; omega)]
      have e : (j + 1) * 13 + i - (rec.rc y).toList.length = j * 13 + i := by simp [rec.rc]; omega
      rw [e]
      exact ih j (by simpa using hx)
end Go.Proofs.YtiljgndgffoloaaGreat.book
end
section
namespace Go.Proofs.YtiljgndgffoloaaGreat.book
open Go.RowKit Go.Proofs.YtiljgndgffoloaaGreat
open Go.Proofs.YtiljgndgffoloaaGreat.order (Or open_ worth)
open Go.Proofs.YtiljgndgffoloaaGreat.cell (Ce Ex)
open Go.Proofs.YtiljgndgffoloaaGreat.rec (Rc)
set_option linter.unusedVariables false
set_option linter.unusedSimpArgs false
set_option maxRecDepth 20000

def gX : Ex := ⟨4, 0, 8⟩
def gL : Ex := ⟨9, 9, 99⟩
def gS : St := newS 1 1 gL 99
def gR : List Rc := [⟨1, 1, 0, 0, 1, 4, 2, 0, 0, 0, false, 0, 0⟩, ⟨6, 1, 0, 0, 0, 0, 0, 0, 0, 0, false, 1, 1⟩, ⟨6, 1, 0, 0, 0, 0, 0, 0, 0, 0, false, 2, 4⟩, ⟨3, 1, 0, 0, 0, 0, 0, 0, 0, 0, false, 0, 0⟩]
def gT : St := (foldV gS gR).1
def gU : St := (foldV gS (gR.take 1)).1
theorem gX_fine : gX.fine := by unfold gX Ex.fine frame.inR; simp
theorem gL_fine : gL.fine := by unfold gL Ex.fine frame.inR; simp
theorem gR_fine : ∀ x ∈ gR, x.fine := by unfold gR Rc.fine frame.inR; simp
theorem gw_new {w0 : World} {D : List Fact} {S : Nat → Prop} {W : World} (hd : Fixed w0 D S W) : GivesM Tryz.prog w0 D 15 #[.int .i64 1, .int .i64 1, .agg (cell.xc gL), .int .i64 99] (Dat (fun w S v => InS w S v gS) S W) (fun x => .tuple #[.agg (stc x.1.2.2 gS), .int .i64 0]) (fun x => [poolF x.1.1 x.1.2.1]) :=
  gives_dat (R := fun w S v => InS w S v gS) (r := fun b => .tuple #[.agg (stc b gS), .int .i64 0]) hd (fun w hw ha => (bnew 1 1 gL 99 w (by unfold frame.inR; omega) (by unfold frame.inR; omega) gL_fine (by unfold frame.inR; omega)).mono (by
    rw [show newV 1 1 gL 99 = (gS, 0) by decide +kernel]
    rintro e w' ⟨x, rfl, hb, hi⟩
    exact ⟨x, rfl, hb, hi.keep (alike_refl _ _) (fun _ h => .inr h)⟩))
theorem fixed_pool2 {w0 : World} {D : List Fact} {W : World} {t : St} (x : Dat (fun w S v => InS w S v t) (fun _ => False) W) {i : Nat} (hi : D[i]? = some (poolF x.1.1 x.1.2.1)) : Fixed w0 D x.1.2.1 x.1.1 := fun w hw ha => ⟨pool_at hi ha, fun k hk => by
  have h1 := pool_at hi ha k hk
  rw [Array.getElem?_eq_getElem (x.2.2.2 k hk)] at h1
  exact (Array.getElem?_eq_some_iff.1 h1).1⟩
theorem gw_low {w0 : World} {D : List Fact} {W : World} {t : St} (x : Dat (fun w S v => InS w S v t) (fun _ => False) W) {i : Nat} (hi : D[i]? = some (poolF x.1.1 x.1.2.1)) : ∀ w, Below w0.heap.size w0 w → All D w → InS w x.1.2.1 x.1.2.2 t :=
  fun w hw ha => (x.later (keeps_in t) (fun k hk => hk.elim) (pool_at hi ha)).keep (alike_refl _ _) (fun k h => h.resolve_left id)
theorem gw_row {w : World} {g : Nat} {T : TypeId} (h : w.heap[g]? = some (.cells #[.int .i64 1, .int .i64 1, .int .i64 0, .int .i64 0, .int .i64 1, .int .i64 4, .int .i64 2, .int .i64 0, .int .i64 0, .int .i64 0, .bool false, .int .i64 0, .int .i64 0, .int .i64 6, .int .i64 1, .int .i64 0, .int .i64 0, .int .i64 0, .int .i64 0, .int .i64 0, .int .i64 0, .int .i64 0, .int .i64 0, .bool false, .int .i64 1, .int .i64 1, .int .i64 6, .int .i64 1, .int .i64 0, .int .i64 0, .int .i64 0, .int .i64 0, .int .i64 0, .int .i64 0, .int .i64 0, .int .i64 0, .bool false, .int .i64 2, .int .i64 4, .int .i64 3, .int .i64 1, .int .i64 0, .int .i64 0, .int .i64 0, .int .i64 0, .int .i64 0, .int .i64 0, .int .i64 0, .int .i64 0, .bool false, .int .i64 0, .int .i64 0] T (0, 0))) : Elems rdRec 13 w (Lt w.heap.size) (some ⟨g, 0, none⟩) gR := elems_block h rfl gR_fine
section
variable {w0 : World} {D : List Fact} {v u : Sv} {g : Nat}
theorem gw_foldT {S : Nat → Prop} {W : World} (hd : Fixed w0 D S W) (hs : ∀ w, Below w0.heap.size w0 w → All D w → InS w S v gS) (hx : ∀ w, Below w0.heap.size w0 w → All D w → Elems rdRec 13 w (Lt w.heap.size) (some ⟨g, 0, none⟩) gR) : GivesM Tryz.prog w0 D 23 #[.agg (stc v gS), .slice (some ⟨g, 0, none⟩) 4 4] (Dat (fun w S v => InS w S v gT) S W) (fun x => .tuple #[.agg (stc x.1.2.2 gT), .int .i64 3, .int .i64 7]) (fun x => [poolF x.1.1 x.1.2.1]) := by
  have h := i_fold (c := 4) hd hs hx (by decide)
  rw [show ((foldV gS gR).2.1 : Int) = 3 by decide +kernel, show (foldV gS gR).2.2 = 7 by decide +kernel] at h
  exact h
theorem gw_foldU {S : Nat → Prop} {W : World} (hd : Fixed w0 D S W) (hs : ∀ w, Below w0.heap.size w0 w → All D w → InS w S v gS) (hx : ∀ w, Below w0.heap.size w0 w → All D w → Elems rdRec 13 w (Lt w.heap.size) (some ⟨g, 0, none⟩) gR) : GivesM Tryz.prog w0 D 23 #[.agg (stc v gS), .slice (some ⟨g, 0, none⟩) 1 4] (Dat (fun w S v => InS w S v gU) S W) (fun x => .tuple #[.agg (stc x.1.2.2 gU), .int .i64 1, .int .i64 0]) (fun x => [poolF x.1.1 x.1.2.1]) := by
  have h := i_fold (c := 4) hd hs (fun w hw ha => elems_take (hx w hw ha) 1) (by decide)
  rw [show ((foldV gS (gR.take 1)).2.1 : Int) = 1 by decide +kernel, show (foldV gS (gR.take 1)).2.2 = 0 by decide +kernel] at h
  exact h
theorem gw_expos (hs : ∀ w, Below w0.heap.size w0 w → All D w → InS w (Lt w.heap.size) v gU) : GivesM Tryz.prog w0 D 27 #[.agg (stc v gU)] (Option Addr × Nat) (fun x => .slice x.1 1 x.2) (fun x => [ownF rdExpo 3 31 x.1 1 x.2 [gX]]) := by
  have h := i_expos hs
  rw [show exposV gU = [gX] by decide +kernel] at h
  exact h
theorem gw_covU (hs : ∀ w, Below w0.heap.size w0 w → All D w → InS w (Lt w.heap.size) v gU) (ht : ∀ w, Below w0.heap.size w0 w → All D w → InS w (Lt w.heap.size) u gT) : Gives Tryz.prog w0 D 25 #[.agg (stc v gU), .agg (stc u gT)] (.bool true) := by
  have h := i_cov hs ht
  rw [show coversV gU gT = true by decide +kernel] at h
  exact h
theorem gw_covT (hs : ∀ w, Below w0.heap.size w0 w → All D w → InS w (Lt w.heap.size) v gT) (ht : ∀ w, Below w0.heap.size w0 w → All D w → InS w (Lt w.heap.size) u gU) : Gives Tryz.prog w0 D 25 #[.agg (stc v gT), .agg (stc u gU)] (.bool false) := by
  have h := i_cov hs ht
  rw [show coversV gT gU = false by decide +kernel] at h
  exact h
end
theorem gw_eq {w0 : World} {D : List Fact} {m : Sem Value} (h : Yields0 Tryz.prog w0 D m (.bool (decide (gX = gX)))) : Yields0 Tryz.prog w0 D m (.bool true) := by simpa using h
theorem awake11   (w : World) : Calls Tryz.prog 22 #[] w fun e w' => e = .returned (.bool true) ∧ Below w.heap.size w w' :=
  calls_by (fn := Tryz.f22) (r := .bool true) (t := let k0 := cell.xc (([gX]).getD 0 xz); .cm (Dat (fun w S v => InS w S v gS) (fun _ => False) w) (fun x => .tuple #[.agg (stc x.1.2.2 gS), .int .i64 0]) (fun x => [poolF x.1.1 x.1.2.1]) (fun x1 => .w (Nat) none (fun x => .slice (some ⟨x, 0, none⟩) 4 4) (fun x => [cellsF x #[.int .i64 1, .int .i64 1, .int .i64 0, .int .i64 0, .int .i64 1, .int .i64 4, .int .i64 2, .int .i64 0, .int .i64 0, .int .i64 0, .bool false, .int .i64 0, .int .i64 0, .int .i64 6, .int .i64 1, .int .i64 0, .int .i64 0, .int .i64 0, .int .i64 0, .int .i64 0, .int .i64 0, .int .i64 0, .int .i64 0, .bool false, .int .i64 1, .int .i64 1, .int .i64 6, .int .i64 1, .int .i64 0, .int .i64 0, .int .i64 0, .int .i64 0, .int .i64 0, .int .i64 0, .int .i64 0, .int .i64 0, .bool false, .int .i64 2, .int .i64 4, .int .i64 3, .int .i64 1, .int .i64 0, .int .i64 0, .int .i64 0, .int .i64 0, .int .i64 0, .int .i64 0, .int .i64 0, .int .i64 0, .bool false, .int .i64 0, .int .i64 0] 29]) (fun x2 => .cm (Dat (fun w S v => InS w S v gT) x1.1.2.1 x1.1.1) (fun x => .tuple #[.agg (stc x.1.2.2 gT), .int .i64 3, .int .i64 7]) (fun x => [poolF x.1.1 x.1.2.1]) (fun x3 => .o [] (.x (.slice (some ⟨x2, 0, none⟩) 1 4) (.two (.cm (Dat (fun w S v => InS w S v gU) x1.1.2.1 x1.1.1) (fun x => .tuple #[.agg (stc x.1.2.2 gU), .int .i64 1, .int .i64 0]) (fun x => [poolF x.1.1 x.1.2.1]) (fun x4 => .cm (Option Addr × Nat) (fun x => .slice x.1 1 x.2) (fun x => [ownF rdExpo 3 31 x.1 1 x.2 ([gX])]) (fun x5 => .k (.k (.k (.k (.k (.k (.k (.k (.k (.k (.k (.k (.q (blkA x5.1) (offA x5.1 + 0 * 3) k0 (.x (.bool true) (.k (.c (.bool true) (.k (.c (.bool false) .z)))))))))))))))))))) (.cm (Dat (fun w S v => InS w S v gU) x1.1.2.1 x1.1.1) (fun x => .tuple #[.agg (stc x.1.2.2 gU), .int .i64 1, .int .i64 0]) (fun x => [poolF x.1.1 x.1.2.1]) (fun x6 => .cm (Option Addr × Nat) (fun x => .slice x.1 1 x.2) (fun x => [ownF rdExpo 3 31 x.1 1 x.2 ([gX])]) (fun x7 => .k (.k (.k (.k (.k (.k (.k (.k (.k (.k (.k (.k (.q (blkA x7.1) (offA x7.1 + 0 * 3) k0 (.x (.bool true) (.k (.c (.bool true) (.k (.c (.bool false) .z)))))))))))))))))))))))))) (X :=
 let k0 : Array Value := #[.int .i64 1, .int .i64 1, .int .i64 0, .int .i64 0, .int .i64 1, .int .i64 4, .int .i64 2, .int .i64 0, .int .i64 0, .int .i64 0, .bool false, .int .i64 0, .int .i64 0, .int .i64 6, .int .i64 1, .int .i64 0, .int .i64 0, .int .i64 0, .int .i64 0, .int .i64 0, .int .i64 0, .int .i64 0, .int .i64 0, .bool false, .int .i64 1, .int .i64 1, .int .i64 6, .int .i64 1, .int .i64 0, .int .i64 0, .int .i64 0, .int .i64 0, .int .i64 0, .int .i64 0, .int .i64 0, .int .i64 0, .bool false, .int .i64 2, .int .i64 4, .int .i64 3, .int .i64 1, .int .i64 0, .int .i64 0, .int .i64 0, .int .i64 0, .int .i64 0, .int .i64 0, .int .i64 0, .int .i64 0, .bool false, .int .i64 0, .int .i64 0]; let k1 := cell.xc (([gX]).getD 0 xz); let k2 : Value := .agg (cell.xc gX); GivesM Tryz.prog w [] 15 #[.int .i64 1, .int .i64 1, .agg (cell.xc gL), .int .i64 99] (Dat (fun w S v => InS w S v gS) (fun _ => False) w) (fun x => .tuple #[.agg (stc x.1.2.2 gS), .int .i64 0]) (fun x => [poolF x.1.1 x.1.2.1]) ∧ ∀ x1 : Dat (fun w S v => InS w S v gS) (fun _ => False) w,let k3 := stc x1.1.2.2 gS;  ∀ g0 : Nat, StepM Tryz.prog w [poolF x1.1.1 x1.1.2.1] (Instr.buildSlice 55 4 #[(0, .agg #[.int .i64 1, .int .i64 1, .int .i64 0, .int .i64 0, .int .i64 1, .int .i64 4, .int .i64 2, .int .i64 0, .int .i64 0, .int .i64 0, .bool false, .int .i64 0, .int .i64 0]), (1, .agg #[.int .i64 6, .int .i64 1, .int .i64 0, .int .i64 0, .int .i64 0, .int .i64 0, .int .i64 0, .int .i64 0, .int .i64 0, .int .i64 0, .bool false, .int .i64 1, .int .i64 1]), (2, .agg #[.int .i64 6, .int .i64 1, .int .i64 0, .int .i64 0, .int .i64 0, .int .i64 0, .int .i64 0, .int .i64 0, .int .i64 0, .int .i64 0, .bool false, .int .i64 2, .int .i64 4]), (3, .agg #[.int .i64 3, .int .i64 1, .int .i64 0, .int .i64 0, .int .i64 0, .int .i64 0, .int .i64 0, .int .i64 0, .int .i64 0, .int .i64 0, .bool false, .int .i64 0, .int .i64 0])]) (fun _ => False) (Nat) (fun x => .slice (some ⟨x, 0, none⟩) 4 4) (fun x => [cellsF x k0 29]) ∧ ∀ x2 : Nat, let k4 : Option Addr := some ⟨x2, 0, none⟩; GivesM Tryz.prog w [cellsF x2 k0 29, poolF x1.1.1 x1.1.2.1] 23 #[.agg k3, .slice k4 4 4] (Dat (fun w S v => InS w S v gT) x1.1.2.1 x1.1.1) (fun x => .tuple #[.agg (stc x.1.2.2 gT), .int .i64 3, .int .i64 7]) (fun x => [poolF x.1.1 x.1.2.1]) ∧ ∀ x3 : Dat (fun w S v => InS w S v gT) x1.1.2.1 x1.1.1,let k5 : List Fact := [poolF x3.1.1 x3.1.2.1, cellsF x2 k0 29, poolF x1.1.1 x1.1.2.1]; let k6 := stc x3.1.2.2 gT;  ∀ g1 : Nat, Yields0 Tryz.prog w k5 (Instr.sliceAt 55 (.slice k4 4 4) none (some (.int .i64 1)) none) (.slice k4 1 4) ∧ (GivesM Tryz.prog w k5 23 #[.agg k3, .slice k4 1 4] (Dat (fun w S v => InS w S v gU) x1.1.2.1 x1.1.1) (fun x => .tuple #[.agg (stc x.1.2.2 gU), .int .i64 1, .int .i64 0]) (fun x => [poolF x.1.1 x.1.2.1]) ∧ ∀ x4 : Dat (fun w S v => InS w S v gU) x1.1.2.1 x1.1.1,let k7 := stc x4.1.2.2 gU;  ∀ g2 : Nat, GivesM Tryz.prog w [poolF x4.1.1 x4.1.2.1, poolF x3.1.1 x3.1.2.1, cellsF x2 k0 29, poolF x1.1.1 x1.1.2.1] 27 #[.agg k7] (Option Addr × Nat) (fun x => .slice x.1 1 x.2) (fun x => [ownF rdExpo 3 31 x.1 1 x.2 ([gX])]) ∧ ∀ x5 : Option Addr × Nat, let k8 : List Fact := [ownF rdExpo 3 31 x5.1 1 x5.2 ([gX]), poolF x4.1.1 x4.1.2.1, poolF x3.1.1 x3.1.2.1, cellsF x2 k0 29, poolF x1.1.1 x1.1.2.1]; Yields0 Tryz.prog w k8 (Instr.indexAt 24 (.slice x5.1 1 x5.2) (.int .i64 0)) (.pointer (some ⟨blkA x5.1, offA x5.1 + 0 * 3, none⟩)) ∧ Reads0 w k8 (blkA x5.1) (offA x5.1 + 0 * 3) k1 ∧ Yields0 Tryz.prog w k8 (do eqGuard BinOp.eql 31 (.tmp 64) (.tmp 65) (.agg k1) k2; Go.binOp BinOp.eql 31 (.agg k1) k2) (.bool true) ∧ Gives Tryz.prog w k8 25 #[.agg k7, .agg k6] (.bool true) ∧ Gives Tryz.prog w k8 25 #[.agg k6, .agg k7] (.bool false) ∧ (.bool true : Value) = .bool true) ∧ (∀ g2 : Nat, GivesM Tryz.prog w k5 23 #[.agg k3, .slice k4 1 4] (Dat (fun w S v => InS w S v gU) x1.1.2.1 x1.1.1) (fun x => .tuple #[.agg (stc x.1.2.2 gU), .int .i64 1, .int .i64 0]) (fun x => [poolF x.1.1 x.1.2.1]) ∧ ∀ x6 : Dat (fun w S v => InS w S v gU) x1.1.2.1 x1.1.1, let k9 := stc x6.1.2.2 gU; GivesM Tryz.prog w [poolF x6.1.1 x6.1.2.1, poolF x3.1.1 x3.1.2.1, cellsF x2 k0 29, poolF x1.1.1 x1.1.2.1] 27 #[.agg k9] (Option Addr × Nat) (fun x => .slice x.1 1 x.2) (fun x => [ownF rdExpo 3 31 x.1 1 x.2 ([gX])]) ∧ ∀ x7 : Option Addr × Nat, let k10 : List Fact := [ownF rdExpo 3 31 x7.1 1 x7.2 ([gX]), poolF x6.1.1 x6.1.2.1, poolF x3.1.1 x3.1.2.1, cellsF x2 k0 29, poolF x1.1.1 x1.1.2.1]; Yields0 Tryz.prog w k10 (Instr.indexAt 24 (.slice x7.1 1 x7.2) (.int .i64 0)) (.pointer (some ⟨blkA x7.1, offA x7.1 + 0 * 3, none⟩)) ∧ Reads0 w k10 (blkA x7.1) (offA x7.1 + 0 * 3) k1 ∧ Yields0 Tryz.prog w k10 (do eqGuard BinOp.eql 31 (.tmp 64) (.tmp 65) (.agg k1) k2; Go.binOp BinOp.eql 31 (.agg k1) k2) (.bool true) ∧ Gives Tryz.prog w k10 25 #[.agg k9, .agg k6] (.bool true) ∧ Gives Tryz.prog w k10 25 #[.agg k6, .agg k9] (.bool false) ∧ (.bool true : Value) = .bool true)) Tryz.func22 (by kernel_rfl)
  (⟨gw_new (fixed_low (fun k hk => hk.elim)), fun x1 => fun g0 => ⟨(build_step2 (by kernel_rfl) (fun g => by kernel_rfl)), fun x2 => ⟨gw_foldT (fixed_pool2 x1 (i := 1) rfl) (gw_low x1 (i := 1) rfl) (fun w hw ha => gw_row (block_at (j := 0) rfl w ha)), fun x3 => fun g1 => ⟨(fun w _ _ => slice_upto (k := 1) Tryz.underlying55 info_rec (by decide) w), ⟨⟨gw_foldU (fixed_pool2 x1 (i := 2) rfl) (gw_low x1 (i := 2) rfl) (fun w hw ha => gw_row (block_at (j := 1) rfl w ha)), fun x4 => fun g2 => ⟨gw_expos (dat_lt x4 (fixed_pool2 x1 (i := 3) rfl) (i := 0) rfl), fun x5 => ⟨(own_index Tryz.underlying24 info_expo (row_at (j := 0) rfl) (Nat.zero_lt_one)), (own_reads keeps_expo (by decide) expo_cells (row_at (j := 0) rfl) (at_getD (by decide))), ⟨(gw_eq (eql_agg (by kernel_rfl) (cell.run_eq3 gX gX gX_fine gX_fine) _ _)), ⟨gw_covU (dat_lt x4 (fixed_pool2 x1 (i := 4) rfl) (i := 1) rfl) (dat_lt x3 (fixed_pool2 x1 (i := 4) rfl) (i := 2) rfl), ⟨gw_covT (dat_lt x3 (fixed_pool2 x1 (i := 4) rfl) (i := 2) rfl) (dat_lt x4 (fixed_pool2 x1 (i := 4) rfl) (i := 1) rfl), rfl⟩⟩⟩⟩⟩⟩,
 fun g2 => ⟨gw_foldU (fixed_pool2 x1 (i := 2) rfl) (gw_low x1 (i := 2) rfl) (fun w hw ha => gw_row (block_at (j := 1) rfl w ha)), fun x6 => ⟨gw_expos (dat_lt x6 (fixed_pool2 x1 (i := 3) rfl) (i := 0) rfl), fun x7 => ⟨(own_index Tryz.underlying24 info_expo (row_at (j := 0) rfl) (Nat.zero_lt_one)), (own_reads keeps_expo (by decide) expo_cells (row_at (j := 0) rfl) (at_getD (by decide))), ⟨(gw_eq (eql_agg (by kernel_rfl) (cell.run_eq3 gX gX gX_fine gX_fine) _ _)), ⟨gw_covU (dat_lt x6 (fixed_pool2 x1 (i := 4) rfl) (i := 1) rfl) (dat_lt x3 (fixed_pool2 x1 (i := 4) rfl) (i := 2) rfl), ⟨gw_covT (dat_lt x3 (fixed_pool2 x1 (i := 4) rfl) (i := 2) rfl) (dat_lt x6 (fixed_pool2 x1 (i := 4) rfl) (i := 1) rfl), rfl⟩⟩⟩⟩⟩⟩⟩⟩⟩⟩⟩)

end Go.Proofs.YtiljgndgffoloaaGreat.book
end
