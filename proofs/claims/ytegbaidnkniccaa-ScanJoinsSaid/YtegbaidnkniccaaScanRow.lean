/-
  Contract of the document's own Row.
-/
import Derived.Test.YtegbaidnkniccaaScanImpl1
namespace Go.Proofs.Ytegbaidnkniccaa.scan
open Go.RowKit Go.Proofs.Ytegbaidnkniccaa Go.Proofs.Ytegbaidnkniccaa.frame
set_option linter.unusedVariables false

/-- what is known at place j of a row: from which number and epoch it goes on. -/
def At (l : List Fr) (n ep : Int) (R : Bool) (j : Nat) (n' e' : Int) : Prop :=
  row (l.drop j) n' e' = R ∧ (j = 0 → n' = n ∧ e' = ep) ∧ (∀ i f, j = i + 1 → l[i]? = some f → f.l + 1 = n' ∧ f.e = e' ∧ 1 ≤ f.l ∧ f.l ≤ 1000000000)
theorem At.next {l : List Fr} {n ep : Int} {R : Bool} {j : Nat} {n' e' : Int} (h : At l n ep R j n' e') {f : Fr} (hf : l[j]? = some f) (h1 : firstB f n' e' = true) : At l n ep R (j + 1) (f.l + 1) f.e := by
  obtain ⟨h2, _, _⟩ := h
  rw [row_drop hf, h1] at h2
  have hr := firstB_right h1
  have hfit := right_fit hr.1
  refine ⟨by rw [← h2, hr.2.1]; rfl, by omega, fun i g hi hg => ?_⟩
  obtain rfl : j = i := by omega
  rw [hf] at hg
  injection hg with hg
  subst hg
  exact ⟨rfl, rfl, hfit.2.2.1, hfit.2.2.2.1⟩

set_option maxHeartbeats 4000000 in
theorem rrow_any (A : Option Addr) (m c : Nat) (l : List Fr) (n ep : Int) (w : World) (hx : Frs w w.heap.size A l) (hm : l.length = m) (hmax : m ≤ 9223372036854775807) :
    Calls Try.prog 14 #[.slice A m c, .int .i64 n, .int .i64 ep] w fun e w' => e = .returned (.bool (row l n ep)) ∧ Below w.heap.size w w' := by
  have HM : Hid (l.length = m) := Lib.hid hm
  obtain ⟨R, HR⟩ : ∃ R, Hid (row l n ep = R) := ⟨_, Lib.hid rfl⟩
  rw [HR.out]
  clear hm
  go_enter Try.func14, Try.ntmps14
  go_wp2
  go_loopw [7] (fun i wr => ∃ (j : Nat) (n' e' : Int), j ≤ m ∧ i = .int .i64 j ∧ Hid (At l n ep R j n' e') ∧ Below w.heap.size w wr) (fun i _ => m - (intOf i).toNat)
  case atStart => exact ⟨0, n, ep, Nat.zero_le _, rfl, Lib.hid ⟨by rw [List.drop_zero]; exact HR.out, fun _ => ⟨rfl, rfl⟩, by omega⟩, Below.refl _ _⟩
  case round =>
    obtain ⟨j, n', e', hj, rfl, HA, hbr⟩ := hrel
    by_cases hlt : j < m
    · obtain ⟨b, off, e, k, kd, b0, b1, b2, b3, b4, b5, rfl, hb, HX, x0, x1, x2, x3, x4, x5, x6, x7, x8, HF⟩ := (hx.below hbr).at_ (j := j) (by rw [HM.out]; exact hlt)
      have hsz := hbr.size
      have hblt : b < wr.heap.size := by omega
      obtain ⟨f, HFF⟩ : ∃ f, Hid ((⟨e, k, kd, b0, b1, b2, b3, b4, b5⟩ : Fr) = f) := ⟨_, Lib.hid rfl⟩
      obtain ⟨r, Hr⟩ : ∃ r, Hid (right f = r) := ⟨_, Lib.hid rfl⟩
      have HC := Lib.hid (fun W => rright_of HFF.out Hr.out W)
      have HD : Hid (R = (firstB f n' e' && row (l.drop (j + 1)) (n' + 1) f.e)) := Lib.hid (by rw [← HA.out.1, row_drop (by rw [HX.out, HFF.out])])
      have HW := Lib.hid hbr
      rcases r with _ | _
      · have HE : Hid (false = R) := Lib.hid (by rw [HD.out]; unfold firstB; rw [Hr.out]; rfl)
        go_wp2_with ((with_reducible refine Calls.mono (HC.out _) ?_); rintro e1 w1 ⟨rfl, hb1⟩)
        go_ret
        exact ⟨retB HE.out, HW.out.trans (hb1.mono (by omega))⟩
      · have hlit := fr_lit HFF.out
        have HE : Hid ((k ≠ n' ∨ e < e') → false = R) := Lib.hid (fun h => by
          rw [HD.out]; unfold firstB; rw [hlit.1, hlit.2]
          rcases h with h | h
          · simp [h]
          · simp [show ¬ e' ≤ e by omega])
        have HN : Hid (k = n' → e' ≤ e → At l n ep R (j + 1) (k + 1) e) := Lib.hid (fun h1 h2 => by
          have := HA.out.next (f := f) (by rw [HX.out, HFF.out]) (by unfold firstB; rw [Hr.out, hlit.1, hlit.2]; simp [h1, h2])
          rwa [hlit.1, hlit.2] at this)
        clear hlit
        rcases j with _ | j
        · obtain ⟨rfl, rfl⟩ := HA.out.2.1 rfl
          simp only [Nat.zero_mul, Nat.add_zero] at x0 x1 x2 x3 x4 x5 x6 x7 x8
          have hy0 : ∀ w1, Below wr.heap.size wr w1 → w1.cell? ⟨b, off, none⟩ = some (.int .i64 e) ∧ w1.cell? ⟨b, off + 1, none⟩ = some (.int .i64 k) := fun w1 h => ⟨(h.cell (p := ⟨b, off, none⟩) hblt).trans x0, (h.cell (p := ⟨b, off + 1, none⟩) hblt).trans x1⟩
          have HY := Lib.hid hy0
          clear hy0
          by_cases hk : k = n'
          · subst hk
            by_cases he : e' ≤ e
            · have HN' := Lib.hid (HN.out rfl he)
              have hd : decide (e < e') = false := by simpa using he
              clear HN HE
              go_wp2_with ((with_reducible refine Calls.mono (HC.out _) ?_); rintro e1 w1 ⟨rfl, hb1⟩; obtain ⟨y0, y1⟩ := HY.out w1 hb1)
              go_big_quiet (fail)
              go_wp2
              go_roundw
              case rel => exact ⟨1, k + 1, e, by omega, rfl, HN', below_drewN (HW.out.trans (hb1.mono (by omega))) _⟩
              case measure => first | (simp [intOf]; done) | (simp [intOf]; omega)
            · have HE' := Lib.hid (HE.out (.inr (by omega)))
              have he2 : e < e' := by omega
              have hd : decide (e < e') = true := by simpa using he2
              clear HN HE he
              go_wp2_with ((with_reducible refine Calls.mono (HC.out _) ?_); rintro e1 w1 ⟨rfl, hb1⟩; obtain ⟨y0, y1⟩ := HY.out w1 hb1)
              go_big_quiet (fail)
              go_wp2
              go_ret
              exact ⟨retB HE'.out, below_drewN (HW.out.trans (hb1.mono (by omega))) _⟩
          · have HE' := Lib.hid (HE.out (.inl hk))
            have hk2 : (k != n') = true := by simpa using hk
            clear HN HE hk
            go_wp2_with ((with_reducible refine Calls.mono (HC.out _) ?_); rintro e1 w1 ⟨rfl, hb1⟩; obtain ⟨y0, y1⟩ := HY.out w1 hb1)
            go_big_quiet (fail)
            go_wp2
            go_ret
            exact ⟨retB HE'.out, below_drewN (HW.out.trans (hb1.mono (by omega))) _⟩
        · have ek : ((j + 1 : Nat) : Int) = (j : Int) + 1 := by omega
          rw [ek]
          clear ek
          obtain ⟨b', off', e2, k2, kd2, c0, c1, c2, c3, c4, c5, e3, hb2, HX2, z0, z1, _, _, _, _, _, _, _, _⟩ := (hx.below hbr).at_ (j := j) (by rw [HM.out]; omega)
          simp only [Option.some.injEq, Addr.mk.injEq, and_true] at e3
          obtain ⟨rfl, rfl⟩ := e3
          obtain ⟨g1, g2, g3, g4⟩ := HA.out.2.2 j _ rfl HX2.out
          simp only at g1 g2 g3 g4
          subst g1 g2
          have hy0 : ∀ w1, Below wr.heap.size wr w1 → w1.cell? ⟨b, off + (j + 1) * 9, none⟩ = some (.int .i64 e) ∧ w1.cell? ⟨b, off + (j + 1) * 9 + 1, none⟩ = some (.int .i64 k) ∧ w1.cell? ⟨b, off + j * 9, none⟩ = some (.int .i64 e2) ∧ w1.cell? ⟨b, off + j * 9 + 1, none⟩ = some (.int .i64 k2) := fun w1 h => ⟨(h.cell (p := ⟨b, off + (j + 1) * 9, none⟩) hblt).trans x0, (h.cell (p := ⟨b, off + (j + 1) * 9 + 1, none⟩) hblt).trans x1, (h.cell (p := ⟨b, off + j * 9, none⟩) hblt).trans z0, (h.cell (p := ⟨b, off + j * 9 + 1, none⟩) hblt).trans z1⟩
          have HY := Lib.hid hy0
          clear hy0 z0 z1
          have hj0 : ((j : Int) + 1 == 0) = false := by simp; omega
          have hj1 : decide (0 < (j : Int) + 1) = true := by simp
          by_cases hk : k = k2 + 1
          · subst hk
            by_cases he : e2 ≤ e
            · have HN' := Lib.hid (HN.out rfl he)
              have hd : decide (e < e2) = false := by simpa using he
              clear HN HE
              go_wp2_with ((with_reducible refine Calls.mono (HC.out _) ?_); rintro e1 w1 ⟨rfl, hb1⟩; obtain ⟨y0, y1, y2, y3⟩ := HY.out w1 hb1)
              go_big_quiet (fail)
              go_wp2
              go_roundw
              case rel => exact ⟨j + 1 + 1, k2 + 1 + 1, e, by omega, by go_num, HN', below_drewN (HW.out.trans (hb1.mono (by omega))) _⟩
              case measure => first | (simp [intOf]; done) | (simp [intOf]; omega)
            · have HE' := Lib.hid (HE.out (.inr (by omega)))
              have he2 : e < e2 := by omega
              have hd : decide (e < e2) = true := by simpa using he2
              clear HN HE he
              go_wp2_with ((with_reducible refine Calls.mono (HC.out _) ?_); rintro e1 w1 ⟨rfl, hb1⟩; obtain ⟨y0, y1, y2, y3⟩ := HY.out w1 hb1)
              go_big_quiet (fail)
              go_wp2
              go_ret
              exact ⟨retB HE'.out, below_drewN (HW.out.trans (hb1.mono (by omega))) _⟩
          · have HE' := Lib.hid (HE.out (.inl hk))
            have hk2 : (k != k2 + 1) = true := by simpa using hk
            clear HN HE hk
            go_wp2_with ((with_reducible refine Calls.mono (HC.out _) ?_); rintro e1 w1 ⟨rfl, hb1⟩; obtain ⟨y0, y1, y2, y3⟩ := HY.out w1 hb1)
            go_big_quiet (fail)
            go_wp2
            go_ret
            exact ⟨retB HE'.out, below_drewN (HW.out.trans (hb1.mono (by omega))) _⟩
    · have HE : Hid (true = R) := Lib.hid (by rw [← HA.out.1, List.drop_of_length_le (by rw [HM.out]; omega)]; rfl)
      go_wp2
      go_ret
      exact ⟨retB HE.out, hbr⟩
end Go.Proofs.Ytegbaidnkniccaa.scan
