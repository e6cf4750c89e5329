/-
  Words of my own: frames one behind the other in memory.
-/
import Derived.Test.YtegbaidnkniccaaApi04
import Derived.Test.YtegbaidnkniccaaFrameImpl4
import Derived.Test.YtegbaidnkniccaaFiles
import Derived.Test.YtegbaidnkniccaaScanMath
import Derived.Deep.QuietTactic
import Derived.BigQuiet
namespace Go.Proofs.Ytegbaidnkniccaa
open Go.RowKit
set_option linter.unusedVariables false

theorem leaf_frame : Leaf rdFrame := fun _ _ cs f ⟨h, _⟩ c hc => by
  rw [h] at hc
  simp [frame.fc] at hc
  rcases hc with rfl | rfl | rfl | rfl | rfl | rfl | rfl | rfl | rfl <;> rfl
abbrev Frs (w : World) (B : Nat) (A : Option Addr) (l : List frame.Fr) : Prop := Elems rdFrame 9 w (Lt B) A l
theorem Frs.below {w w' : World} {B : Nat} {A : Option Addr} {l : List frame.Fr} (h : Frs w B A l) (hb : Below B w w') : Frs w' B A l := Elems.keep keeps_frame h (below_alike hb) (fun _ h => h)
theorem Frs.more {w : World} {B B' : Nat} {A : Option Addr} {l : List frame.Fr} (h : Frs w B A l) (hb : B ≤ B') : Frs w B' A l := Elems.keep keeps_frame h (alike_refl _ _) (fun _ h => Nat.lt_of_lt_of_le h hb)
theorem Frs.nil (w : World) (B : Nat) (A : Option Addr) : Frs w B A [] := fun h => absurd h (by simp)
theorem Frs.drewN {w : World} {B : Nat} {A : Option Addr} {l : List frame.Fr} (h : Frs w B A l) (m : Nat) : Frs (w.drewN m) B A l := h

/-- what one of them is, cell by cell. -/
theorem Frs.at_ {w : World} {B : Nat} {A : Option Addr} {l : List frame.Fr} (h : Frs w B A l) {j : Nat} (hj : j < l.length) :
    ∃ b off e n k b0 b1 b2 b3 b4 b5, A = some ⟨b, off, none⟩ ∧ b < B ∧ Hid (l[j]? = some ⟨e, n, k, b0, b1, b2, b3, b4, b5⟩) ∧
      w.cell? ⟨b, off + j * 9, none⟩ = some (.int .i64 e) ∧ w.cell? ⟨b, off + j * 9 + 1, none⟩ = some (.int .i64 n) ∧ w.cell? ⟨b, off + j * 9 + 2, none⟩ = some (.int .i64 k) ∧
      w.cell? ⟨b, off + j * 9 + 3, none⟩ = some (.int .i64 b0) ∧ w.cell? ⟨b, off + j * 9 + 4, none⟩ = some (.int .i64 b1) ∧ w.cell? ⟨b, off + j * 9 + 5, none⟩ = some (.int .i64 b2) ∧
      w.cell? ⟨b, off + j * 9 + 6, none⟩ = some (.int .i64 b3) ∧ w.cell? ⟨b, off + j * 9 + 7, none⟩ = some (.int .i64 b4) ∧ w.cell? ⟨b, off + j * 9 + 8, none⟩ = some (.int .i64 b5) ∧
      Hid ((⟨e, n, k, b0, b1, b2, b3, b4, b5⟩ : frame.Fr).fine) := by
  obtain ⟨b, off, e, hb, hc⟩ := h (by omega)
  obtain ⟨cs, hl, hcs, rfl, hf⟩ := hc j l[j] (List.getElem?_eq_getElem hj)
  exact ⟨b, off, _, _, _, _, _, _, _, _, _, e, hb, Lib.hid (List.getElem?_eq_getElem hj), hcs 0 _ rfl, hcs 1 _ rfl, hcs 2 _ rfl, hcs 3 _ rfl, hcs 4 _ rfl, hcs 5 _ rfl, hcs 6 _ rfl, hcs 7 _ rfl, hcs 8 _ rfl, Lib.hid hf⟩
theorem Frs.fine {w : World} {B : Nat} {A : Option Addr} {l : List frame.Fr} (h : Frs w B A l) : ∀ f ∈ l, f.fine := by
  intro f hf
  obtain ⟨j, hj, rfl⟩ := List.getElem_of_mem hf
  obtain ⟨b, off, e, hb, hc⟩ := h (by omega)
  obtain ⟨cs, hl, hcs, _, hf⟩ := hc j l[j] (List.getElem?_eq_getElem hj)
  exact hf
theorem Frs.take {w : World} {B : Nat} {A : Option Addr} {l : List frame.Fr} (h : Frs w B A l) (m : Nat) : Frs w B A (l.take m) := fun h0 => by
  obtain ⟨b, off, e, hb, hc⟩ := h (by rw [List.length_take] at h0; omega)
  refine ⟨b, off, e, hb, fun j x hj => hc j x ?_⟩
  rw [List.getElem?_take] at hj
  split at hj
  · exact hj
  · cases hj
/-- a row of frames of the call's own. -/
abbrev OwnFrs (w : World) (base : Nat) (A : Option Addr) (n c : Nat) (l : List frame.Fr) : Prop := OwnElems rdFrame 9 w base 28 (fun _ => False) A n c l
theorem OwnFrs.frs {w : World} {base : Nat} {A : Option Addr} {n c : Nat} {l : List frame.Fr} (h : OwnFrs w base A n c l) : Frs w w.heap.size A l :=
  OwnElems.elems keeps_frame (by decide) h (fun b hb => False.elim hb) (fun g _ hg => hg)
theorem ownElems_later {α : Type} {R : Rd α} {size : Nat} {w w' : World} {base : Nat} {e : TypeId} {A : Option Addr} {n c : Nat} {l : List α} (hR : Keeps R) (h : OwnElems R size w base e (fun _ => False) A n c l) (hb : Below w.heap.size w w') : OwnElems R size w' base e (fun _ => False) A n c l := by
  obtain ⟨css, h1, h2, h3⟩ := h
  refine ⟨css, ⟨h1.1, ?_⟩, h2.keep hR (fun b o hb' => False.elim hb') (fun _ h => h), h3⟩
  rcases h1.2 with h0 | ⟨g, cap, cur, hv, k1, k2, k3⟩
  · exact .inl h0
  · have hl : g < w.heap.size := by
      rcases Nat.lt_or_ge g w.heap.size with hl | hg
      · exact hl
      · rw [Array.getElem?_eq_none hg] at k2; cases k2
    exact .inr ⟨g, cap, cur, hv, k1, (hb.block g hl).trans k2, k3⟩
theorem ownElems_base {α : Type} {R : Rd α} {size : Nat} {w : World} {base base' : Nat} {e : TypeId} {A : Option Addr} {n c : Nat} {S : Nat → Prop} {l : List α} (h : OwnElems R size w base e S A n c l) (hb : base' ≤ base) : OwnElems R size w base' e S A n c l := by
  obtain ⟨css, h1, h2, h3⟩ := h
  refine ⟨css, ⟨h1.1, ?_⟩, h2, h3⟩
  rcases h1.2 with h0 | ⟨g, cap, cur, hv, k1, k2⟩
  · exact .inl h0
  · exact .inr ⟨g, cap, cur, hv, by omega, k2⟩

namespace scan
open Go.Proofs.Ytegbaidnkniccaa.frame
/-- may a frame be the first of a row from these on? -/
def firstB (f : Fr) (n e : Int) : Bool := right f && decide (f.l = n) && decide (e ≤ f.e)
theorem row_first (f : Fr) (l : List Fr) (n e : Int) : row (f :: l) n e = (firstB f n e && row l (n + 1) f.e) := rfl
theorem row_drop {l : List Fr} {j : Nat} {f : Fr} (h : l[j]? = some f) (n e : Int) : row (l.drop j) n e = (firstB f n e && row (l.drop (j + 1)) (n + 1) f.e) := by
  obtain ⟨hj, rfl⟩ := List.getElem?_eq_some_iff.1 h
  rw [List.drop_eq_getElem_cons hj]; rfl
theorem first_of {e l k b0 b1 b2 b3 b4 b5 : Int} {f : Fr} {r : Bool} {n ep : Int} (h : (⟨e, l, k, b0, b1, b2, b3, b4, b5⟩ : Fr) = f) (hr : firstB f n ep = r) (W : World) :
    Calls Try.prog 19 #[.agg #[.int .i64 e, .int .i64 l, .int .i64 k, .int .i64 b0, .int .i64 b1, .int .i64 b2, .int .i64 b3, .int .i64 b4, .int .i64 b5], .int .i64 n, .int .i64 ep] W fun e w' => e = .returned (.bool r) ∧ Below W.heap.size W w' := by
  subst hr
  have HR : Hid (∀ r, right f = r → ∀ w, Calls Try.prog 8 #[.agg #[.int .i64 e, .int .i64 l, .int .i64 k, .int .i64 b0, .int .i64 b1, .int .i64 b2, .int .i64 b3, .int .i64 b4, .int .i64 b5]] w fun e w' => e = .returned (.bool r) ∧ Below w.heap.size w w') := Lib.hid (fun r hr w => right_of h hr w)
  have hfe : f.e = e := by rw [← h]
  have hfl : f.l = l := by rw [← h]
  obtain ⟨r, HRR⟩ : ∃ r, Hid (right f = r) := ⟨_, Lib.hid rfl⟩
  have hv : firstB f n ep = (r && decide (l = n) && decide (ep ≤ e)) := by unfold firstB; rw [HRR.out, hfe, hfl]
  rw [hv]
  clear hv hfe hfl h
  have HC := Lib.hid (HR.out r HRR.out)
  clear HR HRR
  rcases r with _ | _
  · go_enter Try.func19, Try.ntmps19
    go_wp2_with ((with_reducible refine Calls.mono (HC.out _) ?_); rintro e1 w1 ⟨rfl, hb1⟩)
    go_ret
    exact ⟨retB (by simp), ((Below.refl _ _).alloc (Nat.le_refl _) _).trans (hb1.mono (by simp))⟩
  · by_cases hl : l = n
    · subst hl
      go_enter Try.func19, Try.ntmps19
      go_wp2_with ((with_reducible refine Calls.mono (HC.out _) ?_); rintro e1 w1 ⟨rfl, hb1⟩; have hg : w1.heap[W.heap.size]? = some (.cells #[.int .i64 e, .int .i64 l, .int .i64 k, .int .i64 b0, .int .i64 b1, .int .i64 b2, .int .i64 b3, .int .i64 b4, .int .i64 b5] 28 (0, 0)) := (hb1.block _ (by simp)).trans (heap_alloc_new W _); have x0 : w1.cell? ⟨W.heap.size, 0, none⟩ = some (.int .i64 e) := (block_cell hg 0 _ rfl).1; have x1 : w1.cell? ⟨W.heap.size, 1, none⟩ = some (.int .i64 l) := (block_cell hg 1 _ rfl).1; clear hg)
      go_ret
      exact ⟨retB (by simp), ((Below.refl _ _).alloc (Nat.le_refl _) _).trans (hb1.mono (by simp))⟩
    · have hq : (l == n) = false := by simpa using hl
      have hd : decide (l = n) = false := by simpa using hl
      rw [hd]
      clear hd hl
      go_enter Try.func19, Try.ntmps19
      go_wp2_with ((with_reducible refine Calls.mono (HC.out _) ?_); rintro e1 w1 ⟨rfl, hb1⟩; have hg : w1.heap[W.heap.size]? = some (.cells #[.int .i64 e, .int .i64 l, .int .i64 k, .int .i64 b0, .int .i64 b1, .int .i64 b2, .int .i64 b3, .int .i64 b4, .int .i64 b5] 28 (0, 0)) := (hb1.block _ (by simp)).trans (heap_alloc_new W _); have x0 : w1.cell? ⟨W.heap.size, 0, none⟩ = some (.int .i64 e) := (block_cell hg 0 _ rfl).1; have x1 : w1.cell? ⟨W.heap.size, 1, none⟩ = some (.int .i64 l) := (block_cell hg 1 _ rfl).1; clear hg)
      go_ret
      exact ⟨retB (by simp), ((Below.refl _ _).alloc (Nat.le_refl _) _).trans (hb1.mono (by simp))⟩
theorem behind_of {e l k b0 b1 b2 b3 b4 b5 : Int} (h : l ≤ 1000000000) (h1 : 1 ≤ l) (W : World) :
    Calls Try.prog 20 #[.agg #[.int .i64 e, .int .i64 l, .int .i64 k, .int .i64 b0, .int .i64 b1, .int .i64 b2, .int .i64 b3, .int .i64 b4, .int .i64 b5]] W fun e' w' => e' = .returned (.tuple #[.int .i64 (l + 1), .int .i64 e]) ∧ Below W.heap.size W w' := by
  go_enter Try.func20, Try.ntmps20
  go_wp2
  go_quiet (fail)
  go_wp2
  go_ret2
  refine ⟨rfl, ?_⟩
  repeat (first | exact Below.refl _ _ | refine below_drewN ?_ _ | refine Below.drew ?_ | refine Below.alloc ?_ (by simp) _)
end scan
end Go.Proofs.Ytegbaidnkniccaa
