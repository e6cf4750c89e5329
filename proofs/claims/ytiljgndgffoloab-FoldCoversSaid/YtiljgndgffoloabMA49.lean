/-
  FoldM
-/
import Derived.Test.YtiljgndgffoloabMA17
import Derived.Test.YtiljgndgffoloabMA09
namespace Go.Proofs.Ytiljgndgffoloab.book
open Go.RowKit Go.Proofs.Ytiljgndgffoloab
open Go.Proofs.Ytiljgndgffoloab.order (Or open_ worth oz)
open Go.Proofs.Ytiljgndgffoloab.cell (Ce Ex covers)
open Go.Proofs.Ytiljgndgffoloab.rec (Rc)
set_option linter.unusedVariables false
set_option linter.unusedSimpArgs false

def rz : Rc := ⟨0, 0, 0, 0, 0, 0, 0, 0, 0, 0, false, 0, 0⟩
/-- records folded into a state, of which n are done already. -/
def foldA : St → Nat → List Rc → St × Nat × Int
  | s, n, [] => (s, n, 0)
  | s, n, r :: l => if (do_ s r).2 = 0 then foldA (do_ s r).1 (n + 1) l else (s, n, (do_ s r).2)
def foldV (s : St) (l : List Rc) : St × Nat × Int := foldA s 0 l
theorem drop_getD {l : List Rc} {j : Nat} (hj : j < l.length) : l.drop j = l.getD j rz :: l.drop (j + 1) := by
  rw [List.drop_eq_getElem_cons hj]
  simp [List.getD, List.getElem?_eq_getElem hj]
theorem fold_next {s t : St} {l : List Rc} {j : Nat} (hj : j < l.length) (he : (do_ t (l.getD j rz)).2 = 0) (h : foldA t j (l.drop j) = foldV s l) : foldA (do_ t (l.getD j rz)).1 (j + 1) (l.drop (j + 1)) = foldV s l := by
  rw [drop_getD hj, foldA, if_pos he] at h; exact h
theorem fold_err {s t : St} {l : List Rc} {j : Nat} (hj : j < l.length) (he : ¬ (do_ t (l.getD j rz)).2 = 0) (h : foldA t j (l.drop j) = foldV s l) : foldV s l = (t, j, (do_ t (l.getD j rz)).2) := by
  rw [drop_getD hj, foldA, if_neg he] at h; exact h.symm
theorem fold_end {s t : St} {l : List Rc} {j : Nat} (hl : j ≤ l.length) (hj : ¬ j < l.length) (h : foldA t j (l.drop j) = foldV s l) : foldV s l = (t, l.length, 0) := by
  obtain rfl : j = l.length := by omega
  rw [List.drop_length, foldA] at h; exact h.symm
theorem foldA_from : ∀ (l : List Rc) (s : St) (n : Nat), foldA s n l = ((foldV s l).1, n + (foldV s l).2.1, (foldV s l).2.2) := by
  intro l
  induction l with
  | nil => intro s n; rfl
  | cons r l ih =>
    intro s n
    unfold foldV
    rw [foldA, foldA]
    by_cases h : (do_ s r).2 = 0
    · rw [if_pos h, if_pos h, ih, ih _ (0 + 1)]
      simp only [Prod.mk.injEq, true_and, and_true]; omega
    · rw [if_neg h, if_neg h]; rfl
theorem foldA_app : ∀ (l m : List Rc) (s : St) (n : Nat), foldA s n (l ++ m) = if (foldA s n l).2.2 = 0 then foldA (foldA s n l).1 (foldA s n l).2.1 m else foldA s n l := by
  intro l
  induction l with
  | nil => intro m s n; simp [foldA]
  | cons r l ih =>
    intro m s n
    rw [List.cons_append, foldA, foldA]
    by_cases h : (do_ s r).2 = 0
    · rw [if_pos h, if_pos h, ih]
    · rw [if_neg h, if_neg h, if_neg h]
theorem fold_le : ∀ (l : List Rc) (s : St), (foldV s l).2.1 ≤ l.length ∧ ((foldV s l).2.2 = 0 → (foldV s l).2.1 = l.length) ∧ (¬ (foldV s l).2.2 = 0 → (foldV s l).2.1 < l.length ∧ (do_ (foldV s l).1 (l.getD (foldV s l).2.1 rz)).2 = (foldV s l).2.2) := by
  intro l
  induction l with
  | nil => intro s; simp [foldV, foldA]
  | cons r l ih =>
    intro s
    by_cases h : (do_ s r).2 = 0
    · have e : foldV s (r :: l) = ((foldV (do_ s r).1 l).1, 1 + (foldV (do_ s r).1 l).2.1, (foldV (do_ s r).1 l).2.2) := by
        show foldA s 0 (r :: l) = _
        rw [foldA, if_pos h, foldA_from, Nat.zero_add]
      obtain ⟨h1, h2, h3⟩ := ih (do_ s r).1
      rw [e]
      refine ⟨by simp only [List.length_cons]; omega, fun g => by have := h2 g; simp only [List.length_cons]; omega, fun g => ?_⟩
      obtain ⟨h4, h5⟩ := h3 g
      refine ⟨by simp only [List.length_cons]; omega, ?_⟩
      simp only [Nat.add_comm 1, List.getD_cons_succ]
      exact h5
    · have e : foldV s (r :: l) = (s, 0, (do_ s r).2) := by
        show foldA s 0 (r :: l) = _
        rw [foldA, if_neg h]
      rw [e]
      exact ⟨Nat.zero_le _, fun g => absurd g h, fun _ => ⟨by simp, by simp⟩⟩
/-- records folded in two parts. -/
theorem fold_cut {s : St} {l : List Rc} {k : Nat} (hk : k ≤ l.length) (h : (foldV s (l.take k)).2.2 = 0) : (foldV s (l.take k)).2.1 = k ∧ foldV s l = ((foldV (foldV s (l.take k)).1 (l.drop k)).1, k + (foldV (foldV s (l.take k)).1 (l.drop k)).2.1, (foldV (foldV s (l.take k)).1 (l.drop k)).2.2) := by
  have h1 := (fold_le (l.take k) s).2.1 h
  rw [List.length_take, Nat.min_eq_left hk] at h1
  refine ⟨h1, ?_⟩
  have h2 := foldA_app (l.take k) (l.drop k) s 0
  rw [List.take_append_drop] at h2
  show foldA s 0 l = _
  rw [h2]
  show (if (foldV s (l.take k)).2.2 = 0 then _ else _) = _
  rw [if_pos h]
  show foldA (foldV s (l.take k)).1 (foldV s (l.take k)).2.1 (l.drop k) = _
  rw [h1, foldA_from]
theorem fold_stop {s : St} {l : List Rc} {k : Nat} (hk : k ≤ l.length) (h : ¬ (foldV s (l.take k)).2.2 = 0) : foldV s l = foldV s (l.take k) ∧ (foldV s (l.take k)).2.1 < k ∧ (do_ (foldV s (l.take k)).1 (l.getD (foldV s (l.take k)).2.1 rz)).2 = (foldV s (l.take k)).2.2 := by
  have h1 := (fold_le (l.take k) s).2.2 h
  rw [List.length_take, Nat.min_eq_left hk] at h1
  refine ⟨?_, h1.1, ?_⟩
  · have h2 := foldA_app (l.take k) (l.drop k) s 0
    rw [List.take_append_drop] at h2
    show foldA s 0 l = _
    rw [h2]
    show (if (foldV s (l.take k)).2.2 = 0 then _ else _) = _
    rw [if_neg h]; rfl
  · have := h1.2
    simp only [List.getD, List.getElem?_take_of_lt h1.1] at this ⊢
    exact this
/-- what the cells may come to. -/
def exposV (s : St) : List Ex := if right s then s.cs.map (fun c => (cell.of_ c).1) else []
theorem expos_yes {s : St} (h : right s = true) : exposV s = s.cs.map (fun c => (cell.of_ c).1) := if_pos h
theorem expos_no {s : St} (h : right s = false) : exposV s = [] := by unfold exposV; rw [h]; rfl
theorem expos_len {s : St} (h : right s = true) : (exposV s).length = s.cs.length := by rw [expos_yes h, List.length_map]
theorem cs_pos {s : St} (h : right s = true) : 1 ≤ s.cs.length ∧ s.cs.length ≤ 64 := by
  obtain ⟨⟨h1, h2, h3, h4⟩, ⟨h5, _⟩, _⟩ := right_iff.1 h
  have a1 : 1 * 1 ≤ s.a * s.y := Int.mul_le_mul h1 h3 (by omega) (by omega)
  have a2 : s.a * s.y ≤ 8 * 8 := Int.mul_le_mul h2 h4 (by omega) (by omega)
  omega
theorem expos_pos {s : St} : 0 < (exposV s).length ↔ right s = true := by
  constructor
  · intro h
    cases hr : right s with
    | true => rfl
    | false => rw [expos_no hr] at h; simp at h
  · intro h
    rw [expos_len h]; have := cs_pos h; omega
/-- two lists, one covers the other place by place. -/
def eqF : List Ex → List Ex → Bool
  | [], [] => true
  | x :: xs, y :: ys => covers x y && eqF xs ys
  | _, _ => false
theorem eqF_iff : ∀ {xs ys : List Ex}, eqF xs ys = true ↔ xs.length = ys.length ∧ ∀ i, i < xs.length → covers (xs.getD i xz) (ys.getD i xz) = true := by
  intro xs
  induction xs with
  | nil => intro ys; cases ys with
    | nil => simp [eqF]
    | cons y ys => simp [eqF]
  | cons x xs ih => intro ys; cases ys with
    | nil => simp [eqF]
    | cons y ys =>
      simp only [eqF, Bool.and_eq_true, ih, List.length_cons]
      constructor
      · rintro ⟨h1, h2, h3⟩
        refine ⟨by omega, fun i hi => ?_⟩
        cases i with
        | zero => simpa using h1
        | succ i => simpa using h3 i (by omega)
      · rintro ⟨h1, h2⟩
        refine ⟨by simpa using h2 0 (by omega), by omega, fun i hi => by simpa using h2 (i + 1) (by omega)⟩
theorem eqF_no {xs ys : List Ex} (h : ¬ xs.length = ys.length) : eqF xs ys = false := by
  cases e : eqF xs ys with
  | false => rfl
  | true => exact absurd (eqF_iff.1 e).1 h
theorem eqF_at {xs ys : List Ex} {i : Nat} (hi : i < xs.length) (h : covers (xs.getD i xz) (ys.getD i xz) = false) : eqF xs ys = false := by
  cases e : eqF xs ys with
  | false => rfl
  | true => rw [(eqF_iff.1 e).2 i hi] at h; cases h
/-- a state covers another one. -/
def coversV (s t : St) : Bool := decide (0 < (exposV s).length) && decide (s.a = t.a) && decide (s.y = t.y) && eqF (exposV s) (exposV t)
theorem coversV_iff {s t : St} : coversV s t = true ↔ right s = true ∧ s.a = t.a ∧ s.y = t.y ∧ eqF (exposV s) (exposV t) = true := by
  unfold coversV
  simp only [Bool.and_eq_true, decide_eq_true_eq, expos_pos, and_assoc]
theorem coversV_trans {s t u : St} (h : coversV s t = true) (g : coversV t u = true) : coversV s u = true := by
  obtain ⟨h1, h2, h3, h4⟩ := coversV_iff.1 h
  obtain ⟨g1, g2, g3, g4⟩ := coversV_iff.1 g
  obtain ⟨h5, h6⟩ := eqF_iff.1 h4
  obtain ⟨g5, g6⟩ := eqF_iff.1 g4
  exact coversV_iff.2 ⟨h1, h2.trans g2, h3.trans g3, eqF_iff.2 ⟨h5.trans g5, fun i hi => cell.covers_trans (h6 i hi) (g6 i (by omega))⟩⟩
theorem covers_self (x : Ex) : covers x x = true := cell.covers_iff.2 ⟨Int.le_refl _, Int.le_refl _, Int.le_refl _⟩
theorem coversV_self {s : St} : coversV s s = right s := by
  cases h : right s with
  | true => exact coversV_iff.2 ⟨h, rfl, rfl, eqF_iff.2 ⟨rfl, fun i _ => covers_self _⟩⟩
  | false =>
    cases e : coversV s s with
    | false => rfl
    | true => rw [(coversV_iff.1 e).1] at h; cases h
theorem expos_at {s : St} (h : right s = true) {i : Nat} (hi : i < s.cs.length) : (exposV s).getD i xz = exOf (s.cs.getD i cz) := by
  have hc : cell.Rightly (s.cs.getD i cz) := by
    refine ((right_iff.1 h).2.2.2.2.2.2.1.2.1 _ ?_).2
    simp only [List.getD, List.getElem?_eq_getElem hi, Option.getD_some]
    exact List.getElem_mem hi
  rw [expos_yes h]
  have e : (s.cs.map (fun c => (cell.of_ c).1)).getD i xz = (cell.of_ (s.cs.getD i cz)).1 := by
    simp only [List.getD, List.getElem?_map, List.getElem?_eq_getElem hi, Option.map_some, Option.getD_some]
  rw [e, of_right hc]
/-- what one event does. -/
theorem event_covers {s : St} {r : Rc} (hk : r.k = 6) (h : (do_ s r).2 = 0) : coversV s (do_ s r).1 = true ∧ right (do_ s r).1 = true ∧ (do_ s r).1.seq = s.seq + 1 ∧ (do_ s r).1.lsn = s.lsn + 1 := by
  have e : do_ s r = ((do_ s r).1, 0) := by rw [← h]
  obtain ⟨h1, h2, h3, h4, _, h6, h7, h8⟩ := less_cells e hk
  have hs : right s = true := right_iff.2 (not_wrong (do_ok e).1).1
  have ht : right (do_ s r).1 = true := right_iff.2 (do_right e).1
  refine ⟨coversV_iff.2 ⟨hs, h3.symm, h4.symm, eqF_iff.2 ⟨by rw [expos_len hs, expos_len ht, h1], fun i hi => ?_⟩⟩, ht, by rw [h6, h7], h8⟩
  rw [expos_len hs] at hi
  rw [expos_at hs hi, expos_at ht (by omega)]
  refine (h2 i _ _ ?_ ?_).1
  · simp [List.getD, List.getElem?_eq_getElem hi]
  · have hi2 : i < (do_ s r).1.cs.length := by omega
    simp [List.getD, List.getElem?_eq_getElem hi2]
theorem events_cover : ∀ (l : List Rc) (s : St), right s = true → (∀ r ∈ l, r.k = 6) → coversV s (foldV s l).1 = true ∧ right (foldV s l).1 = true ∧ (foldV s l).1.seq = s.seq + ((foldV s l).2.1 : Int) ∧ (foldV s l).1.lsn = s.lsn + ((foldV s l).2.1 : Int) := by
  intro l
  induction l with
  | nil => intro s hs _; exact ⟨by rw [show (foldV s []).1 = s from rfl, coversV_self]; exact hs, hs, by simp [foldV, foldA], by simp [foldV, foldA]⟩
  | cons r l ih =>
    intro s hs hl
    by_cases h : (do_ s r).2 = 0
    · have e : foldV s (r :: l) = ((foldV (do_ s r).1 l).1, 1 + (foldV (do_ s r).1 l).2.1, (foldV (do_ s r).1 l).2.2) := by
        show foldA s 0 (r :: l) = _
        rw [foldA, if_pos h, foldA_from, Nat.zero_add]
      obtain ⟨h1, h2, h3, h4⟩ := event_covers (hl r (by simp)) h
      obtain ⟨g1, g2, g3, g4⟩ := ih (do_ s r).1 h2 (fun q hq => hl q (by simp [hq]))
      rw [e]
      refine ⟨coversV_trans h1 g1, g2, ?_, ?_⟩
      · rw [g3, h3]; push_cast; omega
      · rw [g4, h4]; push_cast; omega
    · have e : foldV s (r :: l) = (s, 0, (do_ s r).2) := by
        show foldA s 0 (r :: l) = _
        rw [foldA, if_neg h]
      rw [e]
      exact ⟨by rw [coversV_self]; exact hs, hs, by simp, by simp⟩
/-- the events among the first k. -/
def evs (l : List Rc) (k : Nat) : List Rc := (l.take k).filter (fun r => decide (r.k = 6))
theorem evs_yes {l : List Rc} {k : Nat} (hk : k < l.length) (h : (l.getD k rz).k = 6) : evs l k ++ [l.getD k rz] = evs l (k + 1) := by
  unfold evs
  have e : l[k]? = some (l.getD k rz) := by simp [List.getD, List.getElem?_eq_getElem hk]
  rw [List.take_add_one, e, List.filter_append]
  show _ = _ ++ List.filter _ [l.getD k rz]
  rw [List.filter_cons_of_pos (by simpa using h), List.filter_nil]
theorem evs_no {l : List Rc} {k : Nat} (hk : k < l.length) (h : ¬ (l.getD k rz).k = 6) : evs l k = evs l (k + 1) := by
  unfold evs
  have e : l[k]? = some (l.getD k rz) := by simp [List.getD, List.getElem?_eq_getElem hk]
  rw [List.take_add_one, e, List.filter_append]
  show _ = _ ++ List.filter _ [l.getD k rz]
  rw [List.filter_cons_of_neg (by simpa using h), List.filter_nil, List.append_nil]
theorem evs_len (l : List Rc) (k : Nat) : (evs l k).length ≤ k := by
  unfold evs
  exact Nat.le_trans (List.length_filter_le _ _) (by rw [List.length_take]; omega)
theorem evs_all {l : List Rc} {k : Nat} : ∀ r ∈ evs l k, r.k = 6 := fun r hr => by simpa using (List.mem_filter.1 hr).2
/-- what the first k cells may come to, and nothing of the others. -/
def firsts (k : Nat) (cs : List Ce) : List Ex := (cs.map (fun c => (cell.of_ c).1)).take k ++ List.replicate (cs.length - k) xz
theorem firsts_end {cs : List Ce} {k : Nat} (h : cs.length ≤ k) : firsts k cs = cs.map (fun c => (cell.of_ c).1) := by
  unfold firsts
  rw [List.take_of_length_le (by simpa using h), Nat.sub_eq_zero_of_le h]
  simp
theorem firsts_set {cs : List Ce} {k : Nat} (h : k < cs.length) : (firsts k cs).set k ((cell.of_ (cs.getD k cz)).1) = firsts (k + 1) cs := by
  unfold firsts
  have e : cs.length - k = (cs.length - (k + 1)) + 1 := by omega
  have hl : ((cs.map (fun c => (cell.of_ c).1)).take k).length = k := by simp; omega
  have hk : cs[k]? = some (cs.getD k cz) := by simp [List.getD, List.getElem?_eq_getElem h]
  rw [List.set_append, if_neg (by omega), hl, Nat.sub_self, e, List.replicate_succ, List.set_cons_zero]
  rw [List.take_add_one, List.getElem?_map, hk]
  simp
end Go.Proofs.Ytiljgndgffoloab.book
