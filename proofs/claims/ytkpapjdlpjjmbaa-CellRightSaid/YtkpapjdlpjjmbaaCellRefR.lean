/-
  The contracts of the document's own answers for layer 8: Right, Of, Covers.
-/
import Derived.Test.YtkpapjdlpjjmbaaCellEq
import Derived.Test.YtkpapjdlpjjmbaaRet
import Derived.Test.YtkpapjdlpjjmbaaRefAdd
import Derived.Test.YtkpapjdlpjjmbaaRefSub
import Derived.Test.YtkpapjdlpjjmbaaOrdEq
import Derived.Test.YtkpapjdlpjjmbaaWhole
import Derived.Deep.DeepCutAuto
namespace Go.Proofs.Ytkpapjdlpjjmbaa.cell
open Go.RowKit Go.Proofs.Ytkpapjdlpjjmbaa
open Go.Proofs.Ytkpapjdlpjjmbaa.order (eq_cases)
set_option linter.unusedVariables false
set_option linter.unusedSimpArgs false
set_option maxRecDepth 20000
set_option maxHeartbeats 8000000

theorem rright_any (cp cb cs cn : Int) (hf : (⟨cp, cb, cs, cn⟩ : Ce).fine) (w : World) : Calls Try.prog 8 #[.agg #[.int .i64 cp, .int .i64 cb, .int .i64 cs, .int .i64 cn]] w fun e w' => e = .returned (.bool (right ⟨cp, cb, cs, cn⟩)) ∧ Below w.heap.size w w' := by
  obtain ⟨W0, HW0⟩ : ∃ W, Hid ((w.alloc (.cells #[.int .i64 cp, .int .i64 cb, .int .i64 cs, .int .i64 cn] 23)) = W) := ⟨_, Lib.hid rfl⟩
  have HBw0 : Hid (Below w.heap.size w W0) := Lib.hid (by rw [← HW0.out]; exact (Below.refl _ _).alloc (by simp) _)
  have HX0_0 : Hid (∀ W, Below W0.heap.size W0 W → W.heap[w.heap.size]? = some (.cells #[.int .i64 cp, .int .i64 cb, .int .i64 cs, .int .i64 cn] 23 (0, 0))) := Lib.hid (fun W hb => (hb.block _ (by rw [← HW0.out]; simp; try omega)).trans (by rw [← HW0.out]; have := heap_alloc_new w (.cells #[.int .i64 cp, .int .i64 cb, .int .i64 cs, .int .i64 cn] 23); exact this))
  have HRcp : Hid (inI cp) := Lib.hid (by simp only [Ce.fine, frame.inR] at hf; unfold inI; omega)
  have HRcb : Hid (inI cb) := Lib.hid (by simp only [Ce.fine, frame.inR] at hf; unfold inI; omega)
  have HRcs : Hid (inI cs) := Lib.hid (by simp only [Ce.fine, frame.inR] at hf; unfold inI; omega)
  have HRcn : Hid (inI cn) := Lib.hid (by simp only [Ce.fine, frame.inR] at hf; unfold inI; omega)
  clear hf
  obtain ⟨u, HU⟩ : ∃ u, Hid (right ⟨cp, cb, cs, cn⟩ = u) := ⟨_, Lib.hid rfl⟩
  rw [HU.out]
  go_enter Try.func8, Try.ntmps8
  go_upto_region 1 with fail
  rw [HW0.out]
  by_cases hii1 : inI (cp + cb)
  · have HIi1 := Lib.hid hii1
    clear hii1
    obtain ⟨k1_0, k1_1, k1_2, k1_3⟩ := cells4 (HX0_0.out W0 (Below.refl _ _))
    go_wp2_with fail
    refine Calls.mono (num.radd_ok cp cb _ HRcp.out HRcb.out HIi1.out) ?_
    rintro e9 W9 ⟨rfl, rfl⟩
    by_cases hii3 : inI (cs - cp)
    · have HIi3 := Lib.hid hii3
      clear hii3
      clear k1_0 k1_1 k1_2 k1_3
      obtain ⟨k1_0, k1_1, k1_2, k1_3⟩ := cells4 (HX0_0.out W0 (Below.refl _ _))
      go_wp2_with fail
      refine Calls.mono (num.rsub_ok cs cp _ HRcs.out HRcp.out HIi3.out) ?_
      rintro e9 W9 ⟨rfl, rfl⟩
      by_cases hlz5 : cb < 0
      · have HLz5 := Lib.hid hlz5
        have hu : u = false := by
          rw [← HU.out]
          have x0 := HIi1.out
          have x1 := HIi3.out
          have x2 := HLz5.out
          simp only [inI, ne_eq] at *
          exact right_no.2 (by unfold Rightly; simp only; omega)
        subst hu
        clear HU
        clear k1_0 k1_1 k1_2 k1_3
        obtain ⟨k1_0, k1_1, k1_2, k1_3⟩ := cells4 (HX0_0.out W0 (Below.refl _ _))
        go_wp2_with fail
        go_ret
        exact ⟨rec.retB (by first | rfl | (simp; done) | (simp; omega)), HBw0.out⟩
      · have HLz5 := Lib.hid hlz5
        have hnz5 : 0 ≤ cb := by omega
        clear hlz5
        by_cases hlz6 : cs < 0
        · have HLz6 := Lib.hid hlz6
          have hu : u = false := by
            rw [← HU.out]
            have x0 := HIi1.out
            have x1 := HIi3.out
            have x2 := HLz5.out
            have x3 := HLz6.out
            simp only [inI, ne_eq] at *
            exact right_no.2 (by unfold Rightly; simp only; omega)
          subst hu
          clear HU
          clear k1_0 k1_1 k1_2 k1_3
          obtain ⟨k1_0, k1_1, k1_2, k1_3⟩ := cells4 (HX0_0.out W0 (Below.refl _ _))
          go_wp2_with fail
          go_ret
          exact ⟨rec.retB (by first | rfl | (simp; done) | (simp; omega)), HBw0.out⟩
        · have HLz6 := Lib.hid hlz6
          have hnz6 : 0 ≤ cs := by omega
          clear hlz6
          by_cases hlz7 : cn < 0
          · have HLz7 := Lib.hid hlz7
            have hu : u = false := by
              rw [← HU.out]
              have x0 := HIi1.out
              have x1 := HIi3.out
              have x2 := HLz5.out
              have x3 := HLz6.out
              have x4 := HLz7.out
              simp only [inI, ne_eq] at *
              exact right_no.2 (by unfold Rightly; simp only; omega)
            subst hu
            clear HU
            clear k1_0 k1_1 k1_2 k1_3
            obtain ⟨k1_0, k1_1, k1_2, k1_3⟩ := cells4 (HX0_0.out W0 (Below.refl _ _))
            go_wp2_with fail
            go_ret
            exact ⟨rec.retB (by first | rfl | (simp; done) | (simp; omega)), HBw0.out⟩
          · have HLz7 := Lib.hid hlz7
            have hnz7 : 0 ≤ cn := by omega
            clear hlz7
            have hu : u = true := by
              rw [← HU.out]
              have x0 := HIi1.out
              have x1 := HIi3.out
              have x2 := HLz5.out
              have x3 := HLz6.out
              have x4 := HLz7.out
              simp only [inI, ne_eq] at *
              exact right_iff.2 (by unfold Rightly; simp only; omega)
            subst hu
            clear HU
            clear k1_0 k1_1 k1_2 k1_3
            obtain ⟨k1_0, k1_1, k1_2, k1_3⟩ := cells4 (HX0_0.out W0 (Below.refl _ _))
            go_wp2_with fail
            go_ret
            exact ⟨rec.retB (by first | rfl | (simp; done) | (simp; omega)), HBw0.out⟩
    · have HIi3 := Lib.hid hii3
      clear hii3
      clear k1_0 k1_1 k1_2 k1_3
      obtain ⟨k1_0, k1_1, k1_2, k1_3⟩ := cells4 (HX0_0.out W0 (Below.refl _ _))
      go_wp2_with fail
      refine Calls.mono (num.rsub_over cs cp _ HRcs.out HRcp.out HIi3.out) ?_
      rintro e9 W9 ⟨rfl, rfl⟩
      have hu : u = false := by
        rw [← HU.out]
        have x0 := HIi1.out
        have x1 := HIi3.out
        simp only [inI, ne_eq] at *
        exact right_no.2 (by unfold Rightly; simp only; omega)
      subst hu
      clear HU
      clear k1_0 k1_1 k1_2 k1_3
      go_wp2_with fail
      go_ret
      exact ⟨rec.retB (by first | rfl | (simp; done) | (simp; omega)), HBw0.out⟩
  · have HIi1 := Lib.hid hii1
    clear hii1
    obtain ⟨k1_0, k1_1, k1_2, k1_3⟩ := cells4 (HX0_0.out W0 (Below.refl _ _))
    go_wp2_with fail
    refine Calls.mono (num.radd_over cp cb _ HRcp.out HRcb.out HIi1.out) ?_
    rintro e9 W9 ⟨rfl, rfl⟩
    by_cases hii8 : inI (cs - cp)
    · have HIi8 := Lib.hid hii8
      clear hii8
      clear k1_0 k1_1 k1_2 k1_3
      obtain ⟨k1_0, k1_1, k1_2, k1_3⟩ := cells4 (HX0_0.out W0 (Below.refl _ _))
      go_wp2_with fail
      refine Calls.mono (num.rsub_ok cs cp _ HRcs.out HRcp.out HIi8.out) ?_
      rintro e9 W9 ⟨rfl, rfl⟩
      have hu : u = false := by
        rw [← HU.out]
        have x0 := HIi1.out
        have x1 := HIi8.out
        simp only [inI, ne_eq] at *
        exact right_no.2 (by unfold Rightly; simp only; omega)
      subst hu
      clear HU
      clear k1_0 k1_1 k1_2 k1_3
      go_wp2_with fail
      go_ret
      exact ⟨rec.retB (by first | rfl | (simp; done) | (simp; omega)), HBw0.out⟩
    · have HIi8 := Lib.hid hii8
      clear hii8
      clear k1_0 k1_1 k1_2 k1_3
      obtain ⟨k1_0, k1_1, k1_2, k1_3⟩ := cells4 (HX0_0.out W0 (Below.refl _ _))
      go_wp2_with fail
      refine Calls.mono (num.rsub_over cs cp _ HRcs.out HRcp.out HIi8.out) ?_
      rintro e9 W9 ⟨rfl, rfl⟩
      have hu : u = false := by
        rw [← HU.out]
        have x0 := HIi1.out
        have x1 := HIi8.out
        simp only [inI, ne_eq] at *
        exact right_no.2 (by unfold Rightly; simp only; omega)
      subst hu
      clear HU
      clear k1_0 k1_1 k1_2 k1_3
      go_wp2_with fail
      go_ret
      exact ⟨rec.retB (by first | rfl | (simp; done) | (simp; omega)), HBw0.out⟩
theorem rright_is (cp cb cs cn : Int) {b : Bool} (hf : (⟨cp, cb, cs, cn⟩ : Ce).fine) (h : right ⟨cp, cb, cs, cn⟩ = b) (w : World) : Calls Try.prog 8 #[.agg #[.int .i64 cp, .int .i64 cb, .int .i64 cs, .int .i64 cn]] w fun e w' => e = .returned (.bool b) ∧ Below w.heap.size w w' := by
  have key := rright_any cp cb cs cn hf w
  rw [h] at key
  exact key

theorem rof_any (cp cb cs cn : Int) (h : right ⟨cp, cb, cs, cn⟩ = true) (w : World) : Calls Try.prog 11 #[.agg #[.int .i64 cp, .int .i64 cb, .int .i64 cs, .int .i64 cn]] w fun e w' => e = .returned (.agg #[.int .i64 (cp + cb), .int .i64 (cs - cp), .int .i64 cn]) ∧ Below w.heap.size w w' := by
  obtain ⟨W0, HW0⟩ : ∃ W, Hid (((w.alloc (.cells #[.int .i64 cp, .int .i64 cb, .int .i64 cs, .int .i64 cn] 23)).alloc (.cells #[.int .i64 0, .int .i64 0, .int .i64 0] 27)) = W) := ⟨_, Lib.hid rfl⟩
  have HBw0 : Hid (Below w.heap.size w W0) := Lib.hid (by rw [← HW0.out]; exact ((Below.refl _ _).alloc (by simp) _).alloc (by simp; try omega) _)
  have HX0_0 : Hid (∀ W, Below W0.heap.size W0 W → W.heap[w.heap.size]? = some (.cells #[.int .i64 cp, .int .i64 cb, .int .i64 cs, .int .i64 cn] 23 (0, 0))) := Lib.hid (fun W hb => (hb.block _ (by rw [← HW0.out]; simp; try omega)).trans (by rw [← HW0.out]; refine (Below.heap_alloc _ _ _ (by simp; try omega)).trans ?_; have := heap_alloc_new w (.cells #[.int .i64 cp, .int .i64 cb, .int .i64 cs, .int .i64 cn] 23); exact this))
  have HX1_0 : Hid (∀ W, Below W0.heap.size W0 W → W.heap[w.heap.size + 1]? = some (.cells #[.int .i64 0, .int .i64 0, .int .i64 0] 27 (0, 0))) := Lib.hid (fun W hb => (hb.block _ (by rw [← HW0.out]; simp; try omega)).trans (by rw [← HW0.out]; have := heap_alloc_new (w.alloc (.cells #[.int .i64 cp, .int .i64 cb, .int .i64 cs, .int .i64 cn] 23)) (.cells #[.int .i64 0, .int .i64 0, .int .i64 0] 27); simp only [World.size_alloc] at this; exact this))
  have hr := right_iff.1 h
  unfold Rightly at hr
  simp only at hr
  have h1 : IntKind.i64.wrap (cp + cb) = cp + cb := IntWalk.i64_in _ (by omega)
  have h2 : IntKind.i64.wrap (cs - cp) = cs - cp := IntWalk.i64_in _ (by omega)
  clear hr h
  go_enter Try.func11, Try.ntmps11
  go_upto_region 1 with fail
  rw [HW0.out]
  obtain ⟨k1_0, k1_1, k1_2, k1_3⟩ := cells4 (HX0_0.out W0 (Below.refl _ _))
  have hwh : World.whole W0 (w.heap.size + 1) 3 27 := whole_of (HX1_0.out W0 (Below.refl _ _)) rfl
  go_wp2_with (refine wpList_store_whole 27 (.tmp 2) (.tmp 15) (w.heap.size + 1) 3 _ 27 (by rfl) (by rfl) hwh (by rfl) (by kernel_rfl) (by kernel_rfl) ?_)
  obtain ⟨v0, v1, v2⟩ := cells3 (setAll_self (vs := #[.int .i64 (cp + cb), .int .i64 (cs - cp), .int .i64 cn]) hwh rfl)
  exact bodyPost_ret (v := .agg #[.int .i64 (cp + cb), .int .i64 (cs - cp), .int .i64 cn]) (by simp [results, Try.results11, go_sem, v0, v1, v2]) rfl ⟨rfl, setAll_below (HBw0.out) (by first | omega | (simp; done) | (simp; omega))⟩

theorem rcovers_any (al as_ an bl bs bn : Int) (w : World) : Calls Try.prog 19 #[.agg #[.int .i64 al, .int .i64 as_, .int .i64 an], .agg #[.int .i64 bl, .int .i64 bs, .int .i64 bn]] w fun e w' => e = .returned (.bool (covers ⟨al, as_, an⟩ ⟨bl, bs, bn⟩)) ∧ Below w.heap.size w w' := by
  obtain ⟨W0, HW0⟩ : ∃ W, Hid (((w.alloc (.cells #[.int .i64 al, .int .i64 as_, .int .i64 an] 27)).alloc (.cells #[.int .i64 bl, .int .i64 bs, .int .i64 bn] 27)) = W) := ⟨_, Lib.hid rfl⟩
  have HBw0 : Hid (Below w.heap.size w W0) := Lib.hid (by rw [← HW0.out]; exact ((Below.refl _ _).alloc (by simp) _).alloc (by simp; try omega) _)
  have HX0_0 : Hid (∀ W, Below W0.heap.size W0 W → W.heap[w.heap.size]? = some (.cells #[.int .i64 al, .int .i64 as_, .int .i64 an] 27 (0, 0))) := Lib.hid (fun W hb => (hb.block _ (by rw [← HW0.out]; simp; try omega)).trans (by rw [← HW0.out]; refine (Below.heap_alloc _ _ _ (by simp; try omega)).trans ?_; have := heap_alloc_new w (.cells #[.int .i64 al, .int .i64 as_, .int .i64 an] 27); exact this))
  have HX1_0 : Hid (∀ W, Below W0.heap.size W0 W → W.heap[w.heap.size + 1]? = some (.cells #[.int .i64 bl, .int .i64 bs, .int .i64 bn] 27 (0, 0))) := Lib.hid (fun W hb => (hb.block _ (by rw [← HW0.out]; simp; try omega)).trans (by rw [← HW0.out]; have := heap_alloc_new (w.alloc (.cells #[.int .i64 al, .int .i64 as_, .int .i64 an] 27)) (.cells #[.int .i64 bl, .int .i64 bs, .int .i64 bn] 27); simp only [World.size_alloc] at this; exact this))
  obtain ⟨u, HU⟩ : ∃ u, Hid (covers ⟨al, as_, an⟩ ⟨bl, bs, bn⟩ = u) := ⟨_, Lib.hid rfl⟩
  rw [HU.out]
  go_enter Try.func19, Try.ntmps19
  go_upto_region 1 with fail
  rw [HW0.out]
  by_cases hlz1 : al < bl
  · have HLz1 := Lib.hid hlz1
    have hu : u = false := by
      rw [← HU.out]
      have x0 := HLz1.out
      simp only [covers, decide_eq_true_eq, decide_eq_false_iff_not]
      omega
    subst hu
    clear HU
    obtain ⟨k2_0, k2_1, k2_2⟩ := cells3 (HX0_0.out W0 (Below.refl _ _))
    obtain ⟨k3_0, k3_1, k3_2⟩ := cells3 (HX1_0.out W0 (Below.refl _ _))
    go_wp2_with fail
    go_ret
    exact ⟨rec.retB (by first | rfl | (simp; done) | (simp; omega)), HBw0.out⟩
  · have HLz1 := Lib.hid hlz1
    have hnz1 : bl ≤ al := by omega
    clear hlz1
    by_cases hlz2 : as_ < bs
    · have HLz2 := Lib.hid hlz2
      have hu : u = false := by
        rw [← HU.out]
        have x0 := HLz1.out
        have x1 := HLz2.out
        simp only [covers, decide_eq_true_eq, decide_eq_false_iff_not]
        omega
      subst hu
      clear HU
      obtain ⟨k2_0, k2_1, k2_2⟩ := cells3 (HX0_0.out W0 (Below.refl _ _))
      obtain ⟨k3_0, k3_1, k3_2⟩ := cells3 (HX1_0.out W0 (Below.refl _ _))
      go_wp2_with fail
      go_ret
      exact ⟨rec.retB (by first | rfl | (simp; done) | (simp; omega)), HBw0.out⟩
    · have HLz2 := Lib.hid hlz2
      have hnz2 : bs ≤ as_ := by omega
      clear hlz2
      by_cases hlz3 : an < bn
      · have HLz3 := Lib.hid hlz3
        have hu : u = false := by
          rw [← HU.out]
          have x0 := HLz1.out
          have x1 := HLz2.out
          have x2 := HLz3.out
          simp only [covers, decide_eq_true_eq, decide_eq_false_iff_not]
          omega
        subst hu
        clear HU
        obtain ⟨k2_0, k2_1, k2_2⟩ := cells3 (HX0_0.out W0 (Below.refl _ _))
        obtain ⟨k3_0, k3_1, k3_2⟩ := cells3 (HX1_0.out W0 (Below.refl _ _))
        go_wp2_with fail
        go_ret
        exact ⟨rec.retB (by first | rfl | (simp; done) | (simp; omega)), HBw0.out⟩
      · have HLz3 := Lib.hid hlz3
        have hnz3 : bn ≤ an := by omega
        clear hlz3
        have hu : u = true := by
          rw [← HU.out]
          have x0 := HLz1.out
          have x1 := HLz2.out
          have x2 := HLz3.out
          simp only [covers, decide_eq_true_eq, decide_eq_false_iff_not]
          omega
        subst hu
        clear HU
        obtain ⟨k2_0, k2_1, k2_2⟩ := cells3 (HX0_0.out W0 (Below.refl _ _))
        obtain ⟨k3_0, k3_1, k3_2⟩ := cells3 (HX1_0.out W0 (Below.refl _ _))
        go_wp2_with fail
        go_ret
        exact ⟨rec.retB (by first | rfl | (simp; done) | (simp; omega)), HBw0.out⟩
theorem rcovers_is (al as_ an bl bs bn : Int) {b : Bool} (h : covers ⟨al, as_, an⟩ ⟨bl, bs, bn⟩ = b) (w : World) : Calls Try.prog 19 #[.agg #[.int .i64 al, .int .i64 as_, .int .i64 an], .agg #[.int .i64 bl, .int .i64 bs, .int .i64 bn]] w fun e w' => e = .returned (.bool b) ∧ Below w.heap.size w w' := by
  have key := rcovers_any al as_ an bl bs bn w
  rw [h] at key
  exact key


end Go.Proofs.Ytkpapjdlpjjmbaa.cell
