/-
  Words of my own, over no dump: strings of bytes are alike just if the bytes are.
-/
import Derived.Test.YtegbaidnkniccaaBytes
namespace Go.Proofs.Ytegbaidnkniccaa
open Go.RowKit
set_option linter.unusedVariables false

theorem strB_list (bs : List Nat) : (strB bs).toList = bs.map UInt8.ofNat := by
  rw [ByteArray.toList_eq]
  unfold strB
  rw [strOfNums_data, toI, List.map_map]
  exact List.map_congr_left fun x _ => by simp
theorem strB_eq {a b : List Nat} (ha : ∀ x ∈ a, x < 256) (hb : ∀ x ∈ b, x < 256) : (strB a).toList = (strB b).toList ↔ a = b := by
  rw [strB_list, strB_list]
  constructor
  · intro h
    have h2 := congrArg (List.map UInt8.toNat) h
    rw [List.map_map, List.map_map] at h2
    have k : ∀ l : List Nat, (∀ x ∈ l, x < 256) → l.map (UInt8.toNat ∘ UInt8.ofNat) = l := fun l hl => by
      conv => rhs; rw [← List.map_id l]
      refine List.map_congr_left fun x hx => ?_
      have := hl x hx
      simp; omega
    rwa [k a ha, k b hb] at h2
  · rintro rfl; rfl
theorem own_cap {w : World} {base n c : Nat} {e : TypeId} {A : Option Addr} {bs : List Nat} (h : OwnBys w base e A n c bs) : n ≤ c ∧ c ≤ maxLen := by
  rcases h.1.2 with ⟨hv, h0⟩ | ⟨g, cap, cur, hv, _, _, h2, h3, _⟩
  · simp only [Value.slice.injEq] at hv
    obtain ⟨_, rfl, rfl⟩ := hv
    exact ⟨Nat.le_refl _, by unfold maxLen; omega⟩
  · simp only [Value.slice.injEq, true_and] at hv
    obtain ⟨_, rfl⟩ := hv
    exact ⟨h2, h3⟩
theorem own_later {w w' : World} {base n c : Nat} {e : TypeId} {A : Option Addr} {bs : List Nat} (h : OwnBys w base e A n c bs) (hb : Below w.heap.size w w') : OwnBys w' base e A n c bs := by
  refine ⟨⟨h.1.1, ?_⟩, h.2⟩
  rcases h.1.2 with h0 | ⟨g, cap, cur, hv, h1, h2, h3⟩
  · exact .inl h0
  · have hl : g < w.heap.size := by
      rcases Nat.lt_or_ge g w.heap.size with hl | hg
      · exact hl
      · rw [Array.getElem?_eq_none hg] at h2; cases h2
    exact .inr ⟨g, cap, cur, hv, h1, (hb.block g hl).trans h2, h3⟩
theorem own_base {w : World} {base base' n c : Nat} {e : TypeId} {A : Option Addr} {bs : List Nat} (h : OwnBys w base e A n c bs) (hb : base' ≤ base) : OwnBys w base' e A n c bs := by
  refine ⟨⟨h.1.1, ?_⟩, h.2⟩
  rcases h.1.2 with h0 | ⟨g, cap, cur, hv, h1, h2⟩
  · exact .inl h0
  · exact .inr ⟨g, cap, cur, hv, by omega, h2⟩
theorem run_str {P : Program} {w : World} {B : Nat} {A : Option Addr} {bs : List Nat} {n cap : Nat} (h : Bys w B A bs) (hn : bs.length = n) (src e dst : TypeId) (hs : P.underlying src = some (.slice e)) (he : P.underlying e = some (.int .u8))
    (hd : P.underlying dst = some .string) {s : ByteArray} (hv : strB bs = s) : (convert src dst (.slice A n cap)).run P w = .ok (.string s) w := by
  subst hv; exact run_bys_string h hn src e dst hs he hd

end Go.Proofs.Ytegbaidnkniccaa
