/-
  Contracts of package scan's Row, and of the document's own Same and Row.
-/
import Derived.Test.YtegbaidnkniccaaFrs
import Derived.Test.YtegbaidnkniccaaFrameRef
namespace Go.Proofs.Ytegbaidnkniccaa.scan
open Go.RowKit Go.Proofs.Ytegbaidnkniccaa Go.Proofs.Ytegbaidnkniccaa.frame
set_option linter.unusedVariables false

theorem fr_lit {e l k b0 b1 b2 b3 b4 b5 : Int} {f : Fr} (h : (⟨e, l, k, b0, b1, b2, b3, b4, b5⟩ : Fr) = f) : f.e = e ∧ f.l = l := by subst h; exact ⟨rfl, rfl⟩
theorem firstB_right {f : Fr} {n e : Int} (h : firstB f n e = true) : right f = true ∧ f.l = n ∧ e ≤ f.e := by simpa [firstB, and_assoc] using h

set_option maxHeartbeats 2000000 in
theorem row_any (A : Option Addr) (m c : Nat) (l : List Fr) (n ep : Int) (w : World) (hx : Frs w w.heap.size A l) (hm : l.length = m) (hmax : m ≤ 9223372036854775807) :
    Calls Try.prog 13 #[.slice A m c, .int .i64 n, .int .i64 ep] w fun e w' => e = .returned (.bool (row l n ep)) ∧ Below w.heap.size w w' := by
  have HM : Hid (l.length = m) := Lib.hid hm
  obtain ⟨R, HR⟩ : ∃ R, Hid (row l n ep = R) := ⟨_, Lib.hid rfl⟩
  rw [HR.out]
  clear hm
  go_enter Try.func13, Try.ntmps13
  go_wp2
  go_loopw [1, 2, 11] (fun s1 s2 i wr => ∃ (j : Nat) (n' e' : Int), j ≤ m ∧ i = .int .i64 j ∧ s1 = .int .i64 n' ∧ s2 = .int .i64 e' ∧ Hid (row (l.drop j) n' e' = R) ∧ Below w.heap.size w wr) (fun _ _ i _ => m - (intOf i).toNat)
  case atStart => exact ⟨0, n, ep, Nat.zero_le _, rfl, rfl, rfl, Lib.hid (by rw [List.drop_zero]; exact HR.out), Below.refl _ _⟩
  case round =>
    obtain ⟨j, n', e', hj, rfl, rfl, rfl, HRR, hbr⟩ := hrel
    by_cases hlt : j < m
    · obtain ⟨b, off, e, k, kd, b0, b1, b2, b3, b4, b5, rfl, hb, HX, x0, x1, x2, x3, x4, x5, x6, x7, x8, HF⟩ := (hx.below hbr).at_ (j := j) (by rw [HM.out]; exact hlt)
      have hsz := hbr.size
      have hblt : b < wr.heap.size := by omega
      obtain ⟨f, HFF⟩ : ∃ f, Hid ((⟨e, k, kd, b0, b1, b2, b3, b4, b5⟩ : Fr) = f) := ⟨_, Lib.hid rfl⟩
      obtain ⟨r, Hr⟩ : ∃ r, Hid (firstB f n' e' = r) := ⟨_, Lib.hid rfl⟩
      have HC := Lib.hid (fun W => first_of HFF.out Hr.out W)
      have HB := Lib.hid (fun W => behind_of (e := e) (l := k) (k := kd) (b0 := b0) (b1 := b1) (b2 := b2) (b3 := b3) (b4 := b4) (b5 := b5) (W := W))
      have HD : Hid (R = (r && row (l.drop (j + 1)) (n' + 1) f.e)) := Lib.hid (by rw [← HRR.out, row_drop (by rw [HX.out, HFF.out]), Hr.out])
      have HW := Lib.hid (hbr.alloc hsz (.cells #[.int .i64 e, .int .i64 k, .int .i64 kd, .int .i64 b0, .int .i64 b1, .int .i64 b2, .int .i64 b3, .int .i64 b4, .int .i64 b5] 28))
      rcases r with _ | _
      · go_wp2_with ((with_reducible refine Calls.mono (HC.out _) ?_); rintro e1 w1 ⟨rfl, hb1⟩)
        go_ret
        exact ⟨retB (by rw [HD.out]; rfl), HW.out.trans (hb1.mono (by simp; omega))⟩
      · have hr := firstB_right Hr.out
        have hlit := fr_lit HFF.out
        have hfit := right_fit hr.1
        have hk1 : 1 ≤ k := by omega
        have hk2 : k ≤ 1000000000 := by omega
        have HD2 : Hid (row (l.drop (j + 1)) (k + 1) e = R) := Lib.hid (by rw [HD.out, hlit.1, ← hr.2.1, hlit.2]; rfl)
        clear hr hlit hfit
        go_wp2_with (first
          | ((with_reducible refine Calls.mono (HC.out _) ?_); rintro e1 w1 ⟨rfl, hb1⟩; have hg : w1.heap[wr.heap.size]? = some (.cells #[.int .i64 e, .int .i64 k, .int .i64 kd, .int .i64 b0, .int .i64 b1, .int .i64 b2, .int .i64 b3, .int .i64 b4, .int .i64 b5] 28 (0, 0)) := (hb1.block _ (by simp)).trans (heap_alloc_new wr _); have y0 : w1.cell? ⟨wr.heap.size, 0, none⟩ = some (.int .i64 e) := (block_cell hg 0 _ rfl).1; have y1 : w1.cell? ⟨wr.heap.size, 1, none⟩ = some (.int .i64 k) := (block_cell hg 1 _ rfl).1; have y2 : w1.cell? ⟨wr.heap.size, 2, none⟩ = some (.int .i64 kd) := (block_cell hg 2 _ rfl).1; have y3 : w1.cell? ⟨wr.heap.size, 3, none⟩ = some (.int .i64 b0) := (block_cell hg 3 _ rfl).1; have y4 : w1.cell? ⟨wr.heap.size, 4, none⟩ = some (.int .i64 b1) := (block_cell hg 4 _ rfl).1; have y5 : w1.cell? ⟨wr.heap.size, 5, none⟩ = some (.int .i64 b2) := (block_cell hg 5 _ rfl).1; have y6 : w1.cell? ⟨wr.heap.size, 6, none⟩ = some (.int .i64 b3) := (block_cell hg 6 _ rfl).1; have y7 : w1.cell? ⟨wr.heap.size, 7, none⟩ = some (.int .i64 b4) := (block_cell hg 7 _ rfl).1; have y8 : w1.cell? ⟨wr.heap.size, 8, none⟩ = some (.int .i64 b5) := (block_cell hg 8 _ rfl).1; clear hg)
          | ((with_reducible refine Calls.mono (HB.out _ hk2 hk1) ?_); rintro e2 w2 ⟨rfl, hb2⟩))
        go_roundw
        case rel => exact ⟨j + 1, k + 1, e, by omega, by go_num, rfl, rfl, HD2, (HW.out.trans (hb1.mono (by simp; omega))).trans (hb2.mono (by have := hb1.size; simp at this; omega))⟩
        case measure => first | (simp [intOf]; done) | (simp [intOf]; omega)
    · have HE : Hid (true = R) := Lib.hid (by rw [← HRR.out, List.drop_of_length_le (by rw [HM.out]; omega)]; rfl)
      go_wp2
      go_ret
      exact ⟨retB HE.out, hbr⟩

set_option maxHeartbeats 2000000 in
/-- are two lists the same? -/
theorem same_any (A : Option Addr) (m c : Nat) (l : List Fr) (A2 : Option Addr) (m2 c2 : Nat) (l2 : List Fr) (w : World) (hx : Frs w w.heap.size A l) (hm : l.length = m) (hx2 : Frs w w.heap.size A2 l2) (hm2 : l2.length = m2) (hmax : m ≤ 9223372036854775807) (hmax2 : m2 ≤ 9223372036854775807) :
    Calls Try.prog 15 #[.slice A m c, .slice A2 m2 c2] w fun e w' => e = .returned (.bool (decide (l = l2))) ∧ ∃ q, w' = w.drewN q := by
  have HM : Hid (l.length = m) := Lib.hid hm
  have HM2 : Hid (l2.length = m2) := Lib.hid hm2
  obtain ⟨R, HR⟩ : ∃ R, Hid (decide (l = l2) = R) := ⟨_, Lib.hid rfl⟩
  rw [HR.out]
  clear hm hm2
  by_cases hne : m = m2
  · subst hne
    go_enter Try.func15, Try.ntmps15
    go_wp2
    go_loopw [5] (fun i wr => ∃ (j : Nat), j ≤ m ∧ i = .int .i64 j ∧ Hid (l.take j = l2.take j) ∧ ∃ q, wr = w.drewN q) (fun i _ => m - (intOf i).toNat)
    case atStart => exact ⟨0, Nat.zero_le _, rfl, Lib.hid rfl, 0, rfl⟩
    case round =>
      obtain ⟨j, hj, rfl, HT, q, rfl⟩ := hrel
      by_cases hlt : j < m
      · obtain ⟨b, off, e, k, kd, b0, b1, b2, b3, b4, b5, rfl, hb, HX, x0, x1, x2, x3, x4, x5, x6, x7, x8, HF⟩ := hx.at_ (j := j) (by rw [HM.out]; exact hlt)
        obtain ⟨b', off', e', k', kd', b0', b1', b2', b3', b4', b5', rfl, hb', HX', x0', x1', x2', x3', x4', x5', x6', x7', x8', HF'⟩ := hx2.at_ (j := j) (by rw [HM2.out]; exact hlt)
        obtain ⟨f, HFF⟩ : ∃ f, Hid ((⟨e, k, kd, b0, b1, b2, b3, b4, b5⟩ : Fr) = f) := ⟨_, Lib.hid rfl⟩
        obtain ⟨g, HGG⟩ : ∃ f, Hid ((⟨e', k', kd', b0', b1', b2', b3', b4', b5'⟩ : Fr) = f) := ⟨_, Lib.hid rfl⟩
        obtain ⟨r, Hr⟩ : ∃ r, Hid (decide (f = g) = r) := ⟨_, Lib.hid rfl⟩
        have heq := fun W => eq_of HFF.out HGG.out (by rw [← HFF.out]; exact HF.out) (by rw [← HGG.out]; exact HF'.out) Hr.out W
        have h1 := HX.out
        have h2 := HX'.out
        rw [HFF.out] at h1
        rw [HGG.out] at h2
        rcases r with _ | _
        · have HE : Hid (false = R) := Lib.hid (by
            rw [← HR.out]; symm
            simp only [decide_eq_false_iff_not]
            rintro rfl
            have := Hr.out
            rw [h1] at h2
            injection h2 with h2
            simp [h2] at this)
          clear h1 h2
          go_wp2
          go_quiet (fail)
          go_wp2
          go_ret
          exact ⟨retB HE.out, q + nq, by simp⟩
        · have HE : Hid (l.take (j + 1) = l2.take (j + 1)) := Lib.hid (by
            have := Hr.out
            simp only [decide_eq_true_eq] at this
            rw [List.take_add_one, List.take_add_one, HT.out, h1, h2, this])
          clear h1 h2
          go_wp2
          go_quiet (fail)
          go_wp2
          go_roundw
          case rel => exact ⟨j + 1, by omega, by go_num, HE, _, rfl⟩
          case measure => first | (simp [intOf]; done) | (simp [intOf]; omega)
      · have HE : Hid (true = R) := Lib.hid (by
          have := HT.out
          rw [List.take_of_length_le (by rw [HM.out]; omega), List.take_of_length_le (by rw [HM2.out]; omega)] at this
          rw [← HR.out, this]; simp)
        go_wp2
        go_ret
        exact ⟨retB HE.out, q, rfl⟩
  · have HE : Hid (false = R) := Lib.hid (by
      rw [← HR.out]; symm
      simp only [decide_eq_false_iff_not]
      rintro rfl
      exact hne (by rw [← HM.out, ← HM2.out]))
    have hq : ((m : Int) != (m2 : Int)) = true := by simp; omega
    have hq2 : (m != m2) = true := by simpa using hne
    clear hne
    go_enter Try.func15, Try.ntmps15
    go_wp2
    go_ret
    exact ⟨retB HE.out, 0, rfl⟩
end Go.Proofs.Ytegbaidnkniccaa.scan
