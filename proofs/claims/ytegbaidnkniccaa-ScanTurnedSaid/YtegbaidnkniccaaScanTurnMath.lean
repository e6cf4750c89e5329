/-
  Plain mathematics: the first byte that is changed, and what is read of a row's bytes then.
-/
import Derived.Test.YtegbaidnkniccaaScanLaw
namespace Go.Proofs.Ytegbaidnkniccaa.scan
open Go.Proofs.Ytegbaidnkniccaa.frame Go.Proofs.Ytegbaidnkniccaa

/-- the first place from p on at which a byte that isn't 0 stands, or N. -/
def fst (N : Nat) : List Nat → Nat → Nat
  | [], _ => N
  | y :: zs, p => if p < N ∧ y ≠ 0 then p else fst N zs (p + 1)
theorem fst_over (N : Nat) (zs : List Nat) (p : Nat) (h : N ≤ p) : fst N zs p = N := by
  induction zs generalizing p with
  | nil => rfl
  | cons y zs ih => rw [fst, if_neg (by omega), ih (p + 1) (by omega)]
theorem fst_take (N : Nat) (zs : List Nat) (p k : Nat) (h : zs.length ≤ k ∨ N ≤ p + k) : fst N (zs.take k) p = fst N zs p := by
  induction zs generalizing p k with
  | nil => simp
  | cons y zs ih =>
    cases k with
    | zero =>
      rw [List.take_zero, fst_over N (y :: zs) p (by simp at h; omega)]
      rfl
    | succ k =>
      rw [List.take_succ_cons, fst, fst, ih (p + 1) k (by simp at h; omega)]
theorem fst_drop {ys : List Nat} {k y : Nat} (h : ys[k]? = some y) (N p : Nat) : fst N (ys.drop k) p = if p < N ∧ y ≠ 0 then p else fst N (ys.drop (k + 1)) (p + 1) := by
  obtain ⟨hk, rfl⟩ := List.getElem?_eq_some_iff.1 h
  rw [List.drop_eq_getElem_cons hk]; rfl
theorem fst_cases (N : Nat) (zs : List Nat) (p : Nat) (h : p + zs.length ≤ N) : ((∀ y ∈ zs, y = 0) ∧ fst N zs p = N) ∨ ∃ z d ds, zs = List.replicate z 0 ++ d :: ds ∧ d ≠ 0 ∧ fst N zs p = p + z := by
  induction zs generalizing p with
  | nil => exact .inl ⟨by simp, rfl⟩
  | cons y zs ih =>
    simp only [List.length_cons] at h
    by_cases hy : y = 0
    · subst hy
      rcases ih (p + 1) (by omega) with ⟨h1, h2⟩ | ⟨z, d, ds, h1, h2, h3⟩
      · refine .inl ⟨by intro y hy; simp at hy; rcases hy with rfl | hy; rfl; exact h1 y hy, ?_⟩
        rw [fst, if_neg (by simp), h2]
      · refine .inr ⟨z + 1, d, ds, by rw [h1, List.replicate_succ]; rfl, h2, ?_⟩
        rw [fst, if_neg (by simp), h3]; omega
    · refine .inr ⟨0, y, zs, rfl, hy, ?_⟩
      rw [fst, if_pos ⟨by omega, hy⟩]; rfl
theorem fst_le (N : Nat) (zs : List Nat) (p : Nat) : fst N zs p ≤ N := by
  induction zs generalizing p with
  | nil => exact Nat.le_refl _
  | cons y zs ih =>
    rw [fst]
    split
    · omega
    · exact ih _
/-- what is read of a row's bytes that are changed within four. -/
theorem all_turned (l : List Fr) (n e : Int) (hf : ∀ f ∈ l, f.fine) (h : row l n e = true) (F k : Nat) (ys : List Nat) (hk : k ≤ 4) (hky : k ≤ ys.length) (hy : ∀ y ∈ ys, y < 256) (hfk : F + k ≤ 72 * l.length) :
    all (crc.turn (put l) (crc.amid F k (72 * l.length - F - k) ys)) n e = l.take (fst (72 * l.length) (ys.take k) F / 72) := by
  rcases fst_cases (72 * l.length) (ys.take k) F (by rw [List.length_take]; omega) with ⟨h1, h2⟩ | ⟨z, d, ds, h1, h2, h3⟩
  · rw [h2, amid_none F k _ ys hky h1, show F + k + (72 * l.length - F - k) = (put l).length by rw [put_len]; omega, crc.turn_zeros, all_put l n e hf h, List.take_of_length_le (by omega)]
  · have hl : (ys.take k).length = k := by rw [List.length_take]; omega
    have hlz : z + (ds.length + 1) = k := by rw [← hl, h1]; simp
    have hlen : (crc.turn (put l) (crc.amid F k (72 * l.length - F - k) ys)).length = 72 * l.length := by
      rw [crc.turn_len _ _ (by rw [put_len, crc.amid_len _ _ _ _ hky]; omega), put_len]
    have ha : crc.amid F k (72 * l.length - F - k) ys = List.replicate (F + z) 0 ++ (d :: ds) ++ List.replicate (72 * l.length - F - k) 0 := by
      unfold crc.amid
      rw [h1, ← List.append_assoc, List.replicate_append_replicate]
    rw [h3]
    unfold all
    rw [hlen, ha]
    exact scan_turned l (F + z) (72 * l.length - F - k) _ d ds n e hf h (by omega) h2 (by omega) (fun x hx => hy x (List.mem_of_mem_take (by rw [h1]; exact List.mem_append_right _ hx))) (by omega)
end Go.Proofs.Ytegbaidnkniccaa.scan
