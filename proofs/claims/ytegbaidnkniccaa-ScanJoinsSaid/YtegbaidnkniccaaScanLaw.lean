/-
  Contracts of package scan, as the laws ask for them.
-/
import Derived.Test.YtegbaidnkniccaaScanRefS
import Derived.Test.YtegbaidnkniccaaScanPut
namespace Go.Proofs.Ytegbaidnkniccaa.scan
open Go.RowKit Go.Proofs.Ytegbaidnkniccaa Go.Proofs.Ytegbaidnkniccaa.frame
set_option linter.unusedVariables false

theorem right_step {l : List Fr} {j : Nat} {f : Fr} (h : l[j]? = some f) : allRight (l.take (j + 1)) = (allRight (l.take j) && right f) := by
  unfold allRight; rw [List.take_add_one, h]; simp [List.all_append]
theorem row_right {l : List Fr} {n e : Int} (h : row l n e = true) : allRight l = true := by
  induction l generalizing n e with
  | nil => rfl
  | cons f l ih =>
    obtain ⟨h1, _, _, h4⟩ := (row_cons _ _ _ _).1 h
    have := ih h4
    unfold allRight at this ⊢
    simp [h1, this]

set_option maxHeartbeats 2000000 in
theorem put_no (A : Option Addr) (m c : Nat) (l : List Fr) (w : World) (hx : Frs w w.heap.size A l) (hm : l.length = m) (hmax : m ≤ 100) (hr : allRight l = false) :
    Calls Try.prog 9 #[.slice A m c] w fun e w' => e = .returned (.tuple #[.slice none 0 0, .int .i64 1]) ∧ Below w.heap.size w w' := by
  have HM : Hid (l.length = m) := Lib.hid hm
  have HR : Hid (allRight l = false) := Lib.hid hr
  clear hm hr
  have hinfo : Hid ((Try.prog.info? 5).map (fun i => (i.zero, i.size, i.bytes)) = some (some (.int .u8 0), 1, 1)) := Lib.hid (by kernel_rfl)
  go_enter Try.func9, Try.ntmps9
  go_wp2
  go_loopw [4, 11] (fun s i wr => ∃ (j c' : Nat) (A' : Option Addr), j ≤ m ∧ i = .int .i64 j ∧ s = .slice A' (72 * j) c' ∧ Hid (OwnBys wr w.heap.size 5 A' (72 * j) c' (put (l.take j))) ∧ Hid (allRight (l.take j) = true) ∧ Below w.heap.size w wr) (fun _ i _ => m - (intOf i).toNat)
  case atStart => exact ⟨0, 0, none, Nat.zero_le _, rfl, rfl, Lib.hid OwnBys.nil, Lib.hid rfl, Below.refl _ _⟩
  case round =>
    obtain ⟨j, c', A', hj, rfl, rfl, HO, HA, hbr⟩ := hrel
    by_cases hlt : j < m
    · obtain ⟨b, off, e, k, kd, b0, b1, b2, b3, b4, b5, rfl, hb, HX, x0, x1, x2, x3, x4, x5, x6, x7, x8, HF⟩ := (hx.below hbr).at_ (j := j) (by rw [HM.out]; exact hlt)
      have hsz := hbr.size
      have hblt : b < wr.heap.size := by omega
      obtain ⟨f, HFF⟩ : ∃ f, Hid ((⟨e, k, kd, b0, b1, b2, b3, b4, b5⟩ : Fr) = f) := ⟨_, Lib.hid rfl⟩
      obtain ⟨r, Hr⟩ : ∃ r, Hid (right f = r) := ⟨_, Lib.hid rfl⟩
      have HW := Lib.hid (hbr.alloc hsz (.cells #[.int .i64 e, .int .i64 k, .int .i64 kd, .int .i64 b0, .int .i64 b1, .int .i64 b2, .int .i64 b3, .int .i64 b4, .int .i64 b5] 28))
      rcases r with _ | _
      · have HC := Lib.hid (fun W => encode_no_of HFF.out Hr.out W)
        go_wp2_with fail
        refine Calls.mono (HC.out _) ?_
        rintro e1 w1 ⟨rfl, hb1⟩
        have HB1 := Lib.hid (HW.out.trans (hb1.mono (by simp; omega)))
        clear hb1
        go_wp2
        go_ret2
        exact ⟨rfl, HB1.out⟩
      · have HC : Hid (∀ W, Calls Try.prog 16 #[.agg #[.int .i64 e, .int .i64 k, .int .i64 kd, .int .i64 b0, .int .i64 b1, .int .i64 b2, .int .i64 b3, .int .i64 b4, .int .i64 b5]] W (Encoded f W)) := Lib.hid (fun W => encode_yes_of HFF.out (by rw [← HFF.out]; exact HF.out) Hr.out W)
        have HP : Hid (put (l.take (j + 1)) = put (l.take j) ++ enc f) := Lib.hid (put_take (by rw [HX.out, HFF.out]))
        have HA2 : Hid (allRight (l.take (j + 1)) = true) := Lib.hid (by rw [right_step (f := f) (by rw [HX.out, HFF.out]), HA.out, Hr.out]; rfl)
        go_wp2_with fail
        refine Calls.mono (HC.out _) ?_
        rintro e1 w1 ⟨g, rfl, hown, hb1⟩
        have HB1 := Lib.hid (HW.out.trans (hb1.mono (by simp; omega)))
        have HO1 : Hid (OwnBys w1 w.heap.size 5 A' (72 * j) c' (put (l.take j))) := Lib.hid (own_later (own_later HO.out ((Below.refl _ _).alloc (Nat.le_refl _) _)) hb1)
        have HG1 := Lib.hid hown.bys
        have hsz1 : w.heap.size ≤ w1.heap.size := HB1.out.size
        clear hb1 hown
        go_wp2_with (at_builtin; refine wpList_append_bys rfl (.tmp 23) (.tmp 24) _ rfl w.heap.size 5 Try.underlying23 hinfo.out rfl HO1.out rfl HG1.out (enc_len f) (by omega) hsz1 ?_; intro A3 c3 w3 hown3 hgr3 hat3; have HO3 : Hid (OwnBys w3 w.heap.size 5 A3 (72 * (j + 1)) c3 (put (l.take (j + 1)))) := Lib.hid (by rw [HP.out]; exact hown3); have hb3 : Below w.heap.size w w3 := HB1.out.grown hgr3 hsz1 (fun g hg => (HO1.out.block g hg).1); clear hgr3 hat3 hown3)
        go_roundw
        case rel => exact ⟨j + 1, c3, A3, by omega, by go_num, rfl, HO3, HA2, hb3⟩
        case measure => first | (simp [intOf]; done) | (simp [intOf]; omega)
    · exfalso
      have := HA.out
      rw [List.take_of_length_le (by rw [HM.out]; omega), HR.out] at this
      cases this

section
variable {A : Option Addr} {m c B : Nat} {l : List Fr}
theorem put_of (W : World) (hx : Frs W B A l) (hB : B ≤ W.heap.size) (hm : l.length = m) (hmax : m ≤ 100) (hr : allRight l = true) {N : Nat} (hN : 72 * m = N) :
    Calls Try.prog 9 #[.slice A m c] W fun e w' => ∃ A' c', e = .returned (.tuple #[.slice A' N c', .int .i64 0]) ∧ OwnBys w' W.heap.size 5 A' N c' (put l) ∧ Below W.heap.size W w' := by
  refine (put_yes A m c l W (hx.more hB) hm hmax hr).mono ?_
  rintro e w' ⟨A', c', rfl, h1, h2⟩
  rw [hm, hN] at h1 ⊢
  exact ⟨A', c', rfl, h1, h2⟩
theorem put_no_of (W : World) (hx : Frs W B A l) (hB : B ≤ W.heap.size) (hm : l.length = m) (hmax : m ≤ 100) (hr : allRight l = false) :
    Calls Try.prog 9 #[.slice A m c] W fun e w' => e = .returned (.tuple #[.slice none 0 0, .int .i64 1]) ∧ Below W.heap.size W w' := put_no A m c l W (hx.more hB) hm hmax hr
theorem rput_of (W : World) (hx : Frs W B A l) (hB : B ≤ W.heap.size) (hm : l.length = m) (hmax : m ≤ 100) {N : Nat} (hN : 72 * m = N) :
    Calls Try.prog 10 #[.slice A m c] W (Made (put l) N W) := by rw [← hN]; exact rput_any A m c l W (hx.more hB) hm hmax
theorem row_of (W : World) (hx : Frs W B A l) (hB : B ≤ W.heap.size) (hm : l.length = m) (hmax : m ≤ 100000) {n e : Int} {r : Bool} (hr : row l n e = r) :
    Calls Try.prog 13 #[.slice A m c, .int .i64 n, .int .i64 e] W fun e w' => e = .returned (.bool r) ∧ Below W.heap.size W w' := by rw [← hr]; exact row_any A m c l n e W (hx.more hB) hm (by omega)
theorem rrow_of (W : World) (hx : Frs W B A l) (hB : B ≤ W.heap.size) (hm : l.length = m) (hmax : m ≤ 100000) {n e : Int} {r : Bool} (hr : row l n e = r) :
    Calls Try.prog 14 #[.slice A m c, .int .i64 n, .int .i64 e] W fun e w' => e = .returned (.bool r) ∧ Below W.heap.size W w' := by rw [← hr]; exact rrow_any A m c l n e W (hx.more hB) hm (by omega)
theorem same_of {A2 : Option Addr} {m2 c2 B2 : Nat} {l2 : List Fr} (W : World) (hx : Frs W B A l) (hB : B ≤ W.heap.size) (hm : l.length = m) (hmax : m ≤ 100000) (hx2 : Frs W B2 A2 l2) (hB2 : B2 ≤ W.heap.size) (hm2 : l2.length = m2) (hmax2 : m2 ≤ 100000) {r : Bool} (hr : decide (l = l2) = r) :
    Calls Try.prog 15 #[.slice A m c, .slice A2 m2 c2] W fun e w' => e = .returned (.bool r) ∧ Below W.heap.size W w' := by
  rw [← hr]
  refine (same_any A m c l A2 m2 c2 l2 W (hx.more hB) hm (hx2.more hB2) hm2 (by omega) (by omega)).mono ?_
  rintro e w' ⟨h, q, rfl⟩
  exact ⟨h, below_drewN (Below.refl _ _) _⟩
theorem scan_of {bs : List Nat} (W : World) (hx : Bys W B A bs) (hB : B ≤ W.heap.size) (hm : bs.length = m) (hc : m ≤ c) (hcm : c ≤ 9223372036854775807) (hmax : m ≤ 100000) {n e : Int} {l : List Fr} {k : Nat} (hl : all bs n e = l) (hk : l.length = k) :
    Calls Try.prog 11 #[.slice A m c, .int .i64 n, .int .i64 e] W fun e w' => ∃ A' c', e = .returned (.tuple #[.slice A' k c', .int .i64 ((k : Int) * 72)]) ∧ OwnFrs w' W.heap.size A' k c' l ∧ Below W.heap.size W w' := by
  refine (scan_any A m c bs n e W (hx.more hB) hm hc hcm hmax).mono ?_
  rintro e w' ⟨A', n', c', rfl, h1, h2, h3⟩
  rw [hl] at h1 h2
  have h4 := h2.out
  rw [hk] at h4
  subst h4
  exact ⟨A', c', rfl, h1, h3⟩
theorem rscan_of {bs : List Nat} (W : World) (hx : Bys W B A bs) (hB : B ≤ W.heap.size) (hm : bs.length = m) (hc : m ≤ c) (hcm : c ≤ 9223372036854775807) (hmax : m ≤ 100000) {n e : Int} {l : List Fr} {k : Nat} (hl : all bs n e = l) (hk : l.length = k) :
    Calls Try.prog 12 #[.slice A m c, .int .i64 n, .int .i64 e] W fun e w' => ∃ A' c', e = .returned (.tuple #[.slice A' k c', .int .i64 ((k : Int) * 72)]) ∧ OwnFrs w' W.heap.size A' k c' l ∧ Below W.heap.size W w' := by
  refine (rscan_any A m c bs n e W (hx.more hB) hm hc hcm hmax).mono ?_
  rintro e w' ⟨A', n', c', rfl, h1, h2, h3⟩
  rw [hl] at h1 h2
  have h4 := h2.out
  rw [hk] at h4
  subst h4
  exact ⟨A', c', rfl, h1, h3⟩
end

/-- s[:k] as one equation. -/
theorem run_cut_to {P : Program} (t e size bytes : Nat) (z : Value) (ht : P.underlying t = some (.slice e)) (hinfo : (P.info? e).map (fun i => (i.zero, i.size, i.bytes)) = some (some z, size, bytes))
    (A : Option Addr) (n c k : Nat) (x : Int) (hx : x = (k : Int)) (hk : k ≤ c) (w : World) : (Instr.slice t (.slice A n c) none (some (.int .i64 x)) none).run P w = .ok (.slice A k c) w := by
  subst hx
  obtain ⟨i, hi, _, hsz, _⟩ := info_parts hinfo
  have he : P.elem t = e := by simp [Program.elem, ht]
  rw [run_slice_h (P := P) (w := w) t A n c (by rw [he]; exact ht) .i64 (k : Int) (by omega) (by omega), he]
  rcases A with _ | ⟨b, off, sp⟩
  · simp [sizeOf, typeInfo, hi, Result.andThen, sliced]
  · simp [sizeOf, typeInfo, hi, Result.andThen, sliced, Addr.add]
theorem own_frs_cap {w : World} {base n c : Nat} {A : Option Addr} {l : List Fr} (h : OwnFrs w base A n c l) : n ≤ c ∧ c ≤ 9223372036854775807 := by
  have := h.cap; unfold maxLen at this; omega
theorem own_bys_cap {w : World} {base n c : Nat} {e : TypeId} {A : Option Addr} {bs : List Nat} (h : OwnBys w base e A n c bs) : n ≤ c ∧ c ≤ 9223372036854775807 := by
  have := own_cap h; unfold maxLen at this; omega
/-- the first row of all is as it is. -/
theorem all_row (b : List Nat) (n e : Int) (hb : ∀ x ∈ b, x < 256) : row (all b n e) n e = true ∧ put (all b n e) = b.take (72 * (all b n e).length) := scan_row _ _ _ _ hb
theorem all_len (b : List Nat) (n e : Int) : 72 * (all b n e).length ≤ b.length := scan_len _ _ _ _
theorem all_puts (l : List Fr) (r : List Nat) (n e : Int) (hf : ∀ f ∈ l, f.fine) (h : row l n e = true) : all (put l ++ r) n e = l ++ all r (n + l.length) (last l e) := by
  unfold all
  rw [scan_puts l r _ n e hf h (by rw [List.length_append, put_len]; omega)]
  congr 1
  exact scan_fuel _ _ _ _ _ (by rw [List.length_append, put_len]; omega) (by omega)
theorem all_cut (l : List Fr) (c : Nat) (n e : Int) (hf : ∀ f ∈ l, f.fine) (h : row l n e = true) (hc : c ≤ 72 * l.length) : all ((put l).take c) n e = l.take (c / 72) := by
  unfold all
  rw [scan_fuel _ l.length _ _ _ (by omega) (by rw [List.length_take, put_len]; omega)]
  exact scan_cut l c l.length n e hf h hc (Nat.le_refl _)
theorem all_put (l : List Fr) (n e : Int) (hf : ∀ f ∈ l, f.fine) (h : row l n e = true) : all (put l) n e = l := by
  have := all_puts l [] n e hf h
  rw [List.append_nil] at this
  rw [this]; simp [all, scan]
end Go.Proofs.Ytegbaidnkniccaa.scan
