/-
  PROVED: the law OrderLess answers true at every input, and leaves what it was given as it was.
  CONDITIONS: none.
-/
import Derived.Test.YtfnapckjccjjjaaRows
import Derived.WalkKit
import Derived.ProofKit
import Derived.OpenShut
import Derived.ShutString
import Derived.ChangeOld
import Derived.Below
import Derived.Deep.RegionHeld
import Derived.Deep.DrawnRows
import Derived.Deep.DeepCutAuto
import Derived.Test.YtfnapckjccjjjaaAwake07
import Derived.Test.YtfnapckjccjjjaaOrdEq
namespace Go.Proofs.Ytfnapckjccjjjaa.orderLess
open Go.ChangeShapes Go.WideShapes Go.ChangeAt Go.RowKit
open Go.ChangeMaps (open_string shut_string)
open Go.Proofs.Ytfnapckjccjjjaa Go.Proofs.Ytfnapckjccjjjaa.order
attribute [local go_sem] undef
attribute [local go_sem ↓] Go.wp_at_zero Go.wp_at_succ
set_option linter.unusedVariables false

theorem own : ownKnob Try.prog.godebug = none := by kernel_rfl
theorem laidOut : laidOutB Try.prog = true := by kernel_rfl

set_option maxHeartbeats 8000000 in
set_option maxRecDepth 100000 in
theorem walk (cs0 : Array Value) (x0 : OrderD) (cs1 : Array Value) (x1 : NoteD) (w : World) (w0 : rdOrder w (Lt w.heap.size) cs0.toList x0) (w1 : rdNote w (Lt w.heap.size) cs1.toList x1) :
    Calls Try.prog 4 #[.agg cs0, .agg cs1] w fun e w' => e = .returned (.bool true) ∧ Below w.heap.size w w' := by
  -- WALK BEGINS
  obtain ⟨hc0, hf0⟩ := w0
  obtain rfl : cs0 = oc x0 := by apply Array.toList_inj.1; exact hc0
  clear hc0
  obtain ⟨i, a, y, d, q, p, f, ph, m, r, v, g⟩ := x0
  obtain ⟨hc1, hf1⟩ := w1
  obtain rfl : cs1 = nt x1 := by apply Array.toList_inj.1; exact hc1
  clear hc1
  obtain ⟨zN, tN, oN, qN, pN⟩ := x1
  show Calls Try.prog 4 #[.agg #[.int .i64 i, .int .i64 a, .int .i64 y, .int .i64 d, .int .i64 q, .int .i64 p, .int .i64 f, .int .i64 ph, .int .i64 m, .int .i64 r, .int .i64 v, .bool g], .agg #[.int .i64 zN, .int .i64 tN, .int .i64 oN, .int .i64 qN, .int .i64 pN]] w _
  obtain ⟨W0, HW0⟩ : ∃ W, Hid (((w.alloc (.cells #[.int .i64 i, .int .i64 a, .int .i64 y, .int .i64 d, .int .i64 q, .int .i64 p, .int .i64 f, .int .i64 ph, .int .i64 m, .int .i64 r, .int .i64 v, .bool g] 23)).alloc (.cells #[.int .i64 zN, .int .i64 tN, .int .i64 oN, .int .i64 qN, .int .i64 pN] 27)) = W) := ⟨_, Lib.hid rfl⟩
  have HBW : Hid (Below w.heap.size w W0) := Lib.hid (by rw [← HW0.out]; exact ((Below.refl _ _).alloc (by simp) _).alloc (by simp; try omega) _)
  have HX0 : Hid (∀ W, Below W0.heap.size W0 W → W.heap[w.heap.size]? = some (.cells #[.int .i64 i, .int .i64 a, .int .i64 y, .int .i64 d, .int .i64 q, .int .i64 p, .int .i64 f, .int .i64 ph, .int .i64 m, .int .i64 r, .int .i64 v, .bool g] 23 (0, 0))) := Lib.hid (fun W hb => (hb.block _ (by rw [← HW0.out]; simp; try omega)).trans (by rw [← HW0.out]; refine (Below.heap_alloc _ _ _ (by simp; try omega)).trans ?_; have := heap_alloc_new w (.cells #[.int .i64 i, .int .i64 a, .int .i64 y, .int .i64 d, .int .i64 q, .int .i64 p, .int .i64 f, .int .i64 ph, .int .i64 m, .int .i64 r, .int .i64 v, .bool g] 23); exact this))
  have HX1 : Hid (∀ W, Below W0.heap.size W0 W → W.heap[w.heap.size + 1]? = some (.cells #[.int .i64 zN, .int .i64 tN, .int .i64 oN, .int .i64 qN, .int .i64 pN] 27 (0, 0))) := Lib.hid (fun W hb => (hb.block _ (by rw [← HW0.out]; simp; try omega)).trans (by rw [← HW0.out]; have := heap_alloc_new (w.alloc (.cells #[.int .i64 i, .int .i64 a, .int .i64 y, .int .i64 d, .int .i64 q, .int .i64 p, .int .i64 f, .int .i64 ph, .int .i64 m, .int .i64 r, .int .i64 v, .bool g] 23)) (.cells #[.int .i64 zN, .int .i64 tN, .int .i64 oN, .int .i64 qN, .int .i64 pN] 27); simp only [World.size_alloc] at this; exact this))
  have HF := Lib.hid hf0
  have HN : Hid (frame.inR zN ∧ frame.inR tN ∧ frame.inR oN ∧ frame.inR qN ∧ frame.inR pN) := Lib.hid hf1
  obtain ⟨c, HC⟩ : ∃ x, Hid (right ⟨i, a, y, d, q, p, f, ph, m, r, v, g⟩ = x) := ⟨_, Lib.hid rfl⟩
  obtain ⟨⟨⟨iA, aA, yA, dA, qA, pA, fA, phA, mA, rA, vA, gA⟩, ee⟩, ht⟩ : ∃ x, take ⟨i, a, y, d, q, p, f, ph, m, r, v, g⟩ ⟨zN, tN, oN, qN, pN⟩ = x := ⟨_, rfl⟩
  have HT := Lib.hid ht
  have HFA : Hid ((⟨iA, aA, yA, dA, qA, pA, fA, phA, mA, rA, vA, gA⟩ : Or).fine) := Lib.hid (take_fine hf0 ht)
  have HE : Hid (ee = 0 ∨ ((⟨iA, aA, yA, dA, qA, pA, fA, phA, mA, rA, vA, gA⟩ : Or) = ⟨i, a, y, d, q, p, f, ph, m, r, v, g⟩ ∧ (ee = 1 ∨ ee = 8))) := Lib.hid (take_err ht)
  clear hf0 hf1 ht
  go_enter Try.func4, Try.ntmps4
  go_wp2_with fail
  refine Calls.mono (order.awake_any _) ?_
  rintro e1 W1 ⟨rfl, hb⟩
  rw [HW0.out] at hb
  have HB0_1 : Hid (Below W0.heap.size W0 W1) := Lib.hid (hb)
  clear hb
  obtain ⟨k_0, k_1, k_2, k_3, k_4, k_5, k_6, k_7, k_8, k_9, k_10, k_11⟩ := cells12 (HX0.out W1 HB0_1.out)
  go_wp2_with fail
  refine Calls.mono (order.right_is i a y d q p f ph m r v g HF.out HC.out _) ?_
  rintro e2 W2 ⟨rfl, hb⟩
  have HB0_2 : Hid (Below W0.heap.size W0 W2) := Lib.hid (HB0_1.out.trans ((hb : Below W1.heap.size W1 W2).mono HB0_1.out.size))
  have HB1_2 : Hid (Below W1.heap.size W1 W2) := Lib.hid (hb)
  clear hb
  clear k_0 k_1 k_2 k_3 k_4 k_5 k_6 k_7 k_8 k_9 k_10 k_11
  obtain ⟨k_0, k_1, k_2, k_3, k_4, k_5, k_6, k_7, k_8, k_9, k_10, k_11⟩ := cells12 (HX0.out W2 HB0_2.out)
  obtain ⟨n_0, n_1, n_2, n_3, n_4⟩ := cells5 (HX1.out W2 HB0_2.out)
  rcases c with _ | _
  · go_wp2_with fail
    go_ret
    exact ⟨rfl, HBW.out.trans (HB0_2.out.mono HBW.out.size)⟩
  · go_wp2_with fail
    refine Calls.mono (order.take_is i a y d q p f ph m r v g zN tN oN qN pN HF.out HN.out HT.out _) ?_
    rintro e3 W3 ⟨rfl, hb⟩
    have HB0_3 : Hid (Below W0.heap.size W0 W3) := Lib.hid (HB0_2.out.trans ((hb : Below W2.heap.size W2 W3).mono HB0_2.out.size))
    have HB1_3 : Hid (Below W1.heap.size W1 W3) := Lib.hid (HB1_2.out.trans ((hb : Below W2.heap.size W2 W3).mono HB1_2.out.size))
    have HB2_3 : Hid (Below W2.heap.size W2 W3) := Lib.hid (hb)
    clear hb
    clear k_0 k_1 k_2 k_3 k_4 k_5 k_6 k_7 k_8 k_9 k_10 k_11 n_0 n_1 n_2 n_3 n_4
    obtain ⟨W4, HW4⟩ : ∃ W, Hid ((W3.alloc (.cells #[.int .i64 iA, .int .i64 aA, .int .i64 yA, .int .i64 dA, .int .i64 qA, .int .i64 pA, .int .i64 fA, .int .i64 phA, .int .i64 mA, .int .i64 rA, .int .i64 vA, .bool gA] 23)) = W) := ⟨_, Lib.hid rfl⟩
    have HB0_4 : Hid (Below W0.heap.size W0 W4) := Lib.hid (HB0_3.out.trans ((by rw [← HW4.out]; exact (Below.refl _ _).alloc (Nat.le_refl _) _ : Below W3.heap.size W3 W4).mono HB0_3.out.size))
    have HB1_4 : Hid (Below W1.heap.size W1 W4) := Lib.hid (HB1_3.out.trans ((by rw [← HW4.out]; exact (Below.refl _ _).alloc (Nat.le_refl _) _ : Below W3.heap.size W3 W4).mono HB1_3.out.size))
    have HB2_4 : Hid (Below W2.heap.size W2 W4) := Lib.hid (HB2_3.out.trans ((by rw [← HW4.out]; exact (Below.refl _ _).alloc (Nat.le_refl _) _ : Below W3.heap.size W3 W4).mono HB2_3.out.size))
    have HB3_4 : Hid (Below W3.heap.size W3 W4) := Lib.hid (by rw [← HW4.out]; exact (Below.refl _ _).alloc (Nat.le_refl _) _)
    have HX_p : Hid (∀ W, Below W4.heap.size W4 W → W.heap[W3.heap.size]? = some (.cells #[.int .i64 iA, .int .i64 aA, .int .i64 yA, .int .i64 dA, .int .i64 qA, .int .i64 pA, .int .i64 fA, .int .i64 phA, .int .i64 mA, .int .i64 rA, .int .i64 vA, .bool gA] 23 (0, 0))) := Lib.hid (fun W hb => (hb.block _ (by rw [← HW4.out]; simp)).trans (by rw [← HW4.out]; exact heap_alloc_new _ _))
    rcases HE.out with he | he
    · subst he
      obtain ⟨hR, hno, hoi, htk⟩ := take_ok HT.out
      obtain ⟨s1, s2, s3, s4, s5, s6, s7, s8, s9⟩ := took_same hR htk
      simp only at s1 s2 s3 s4 s5 s6 s7 s8 s9
      obtain rfl : i = iA := s3.symm
      obtain rfl : a = aA := s4.symm
      obtain rfl : y = yA := s5.symm
      obtain rfl : d = dA := s6.symm
      obtain rfl : v = vA := s8.symm
      obtain rfl : g = gA := s9.symm
      have HRA : Hid (right ⟨i, a, y, d, qA, pA, fA, phA, mA, rA, v, g⟩ = true) := Lib.hid (right_iff.2 (took_right hR htk))
      obtain ⟨n1, HO1⟩ : ∃ n, Hid (open_ ⟨i, a, y, d, q, p, f, ph, m, r, v, g⟩ = n) := ⟨_, Lib.hid rfl⟩
      obtain ⟨n2, HO2⟩ : ∃ n, Hid (open_ ⟨i, a, y, d, qA, pA, fA, phA, mA, rA, v, g⟩ = n) := ⟨_, Lib.hid rfl⟩
      have ho : n2 ≤ n1 := by rw [← HO1.out, ← HO2.out]; exact took_open hR htk
      obtain ⟨⟨g1, e1⟩, hw1⟩ : ∃ x, worth ⟨i, a, y, d, q, p, f, ph, m, r, v, g⟩ = x := ⟨_, rfl⟩
      obtain ⟨⟨g2, e2⟩, hw2⟩ : ∃ x, worth ⟨i, a, y, d, qA, pA, fA, phA, mA, rA, v, g⟩ = x := ⟨_, rfl⟩
      have HW1' := Lib.hid hw1
      have HW2' := Lib.hid hw2
      have HWW : Hid (e1 = 0 → e2 = 0 ∧ g2 ≤ g1) := Lib.hid (fun h => by
        subst h
        obtain ⟨x, hx, hle⟩ := took_worth hR htk hw1
        rw [hw2] at hx
        simp only [Prod.mk.injEq] at hx
        obtain ⟨rfl, rfl⟩ := hx
        exact ⟨rfl, hle⟩)
      have hp3 : (ph == 3) = false := by simpa using s1
      have hq8 : ph ≤ phA := s2
      have hq9 : f ≤ fA := s7
      clear hR hno hoi htk hw1 hw2 s1 s2 s7
      go_upto_region 8 with fail
      go_cut [105] (fun s wx => s = .bool false ∧ Below W4.heap.size W4 wx)
      case first =>
        rw [HW4.out]
        refine wp_region_held_drew (S := fun W => Below W4.heap.size W4 W) (by kernel_rfl) (Below.refl _ _).drew (fun _ => ?_)
        obtain ⟨W5, hW5⟩ : ∃ x, x = W4.drew := ⟨_, rfl⟩
        rw [← hW5]
        have HB0_5 : Hid (Below W0.heap.size W0 W5) := Lib.hid (HB0_4.out.trans ((by rw [hW5]; exact (Below.refl _ _).drew : Below W4.heap.size W4 W5).mono HB0_4.out.size))
        have HB1_5 : Hid (Below W1.heap.size W1 W5) := Lib.hid (HB1_4.out.trans ((by rw [hW5]; exact (Below.refl _ _).drew : Below W4.heap.size W4 W5).mono HB1_4.out.size))
        have HB2_5 : Hid (Below W2.heap.size W2 W5) := Lib.hid (HB2_4.out.trans ((by rw [hW5]; exact (Below.refl _ _).drew : Below W4.heap.size W4 W5).mono HB2_4.out.size))
        have HB3_5 : Hid (Below W3.heap.size W3 W5) := Lib.hid (HB3_4.out.trans ((by rw [hW5]; exact (Below.refl _ _).drew : Below W4.heap.size W4 W5).mono HB3_4.out.size))
        have HB4_5 : Hid (Below W4.heap.size W4 W5) := Lib.hid (by rw [hW5]; exact (Below.refl _ _).drew)
        clear hW5
        refine wpAnyH_take (i := 0) (v := .agg #[.int .i64 i, .int .i64 a, .int .i64 y, .int .i64 d, .int .i64 qA, .int .i64 pA, .int .i64 fA, .int .i64 phA, .int .i64 mA, .int .i64 rA, .int .i64 v, .bool g]) rfl (by kernel_rfl) (by kernel_rfl) (by kernel_rfl) (fun _ _ _ h => h) (Or.inl ⟨by kernel_rfl, ?h0⟩) HB4_5.out ?_
        case h0 => (intro WX hWX; obtain ⟨y0_0, y0_1, y0_2, y0_3, y0_4, y0_5, y0_6, y0_7, y0_8, y0_9, y0_10, y0_11⟩ := cells12 (HX_p.out WX (show Below W4.heap.size W4 WX from hWX)); go_simp)
        go_simp
        refine wpAnyH_ready (rs := [1]) (by kernel_rfl) (by simp) ?_
        refine AllReadyH.cons rfl (fun K hK => ?_) AllReadyH.nil
        go_simp
        go_wp2_with (refine Calls.mono (order.right_is i a y d qA pA fA phA mA rA v g HFA.out HRA.out _) ?_; rintro e6 W6 ⟨rfl, hb⟩)
        have HB0_6 : Hid (Below W0.heap.size W0 W6) := Lib.hid (HB0_5.out.trans ((hb : Below W5.heap.size W5 W6).mono HB0_5.out.size))
        have HB1_6 : Hid (Below W1.heap.size W1 W6) := Lib.hid (HB1_5.out.trans ((hb : Below W5.heap.size W5 W6).mono HB1_5.out.size))
        have HB2_6 : Hid (Below W2.heap.size W2 W6) := Lib.hid (HB2_5.out.trans ((hb : Below W5.heap.size W5 W6).mono HB2_5.out.size))
        have HB3_6 : Hid (Below W3.heap.size W3 W6) := Lib.hid (HB3_5.out.trans ((hb : Below W5.heap.size W5 W6).mono HB3_5.out.size))
        have HB4_6 : Hid (Below W4.heap.size W4 W6) := Lib.hid (HB4_5.out.trans ((hb : Below W5.heap.size W5 W6).mono HB4_5.out.size))
        have HB5_6 : Hid (Below W5.heap.size W5 W6) := Lib.hid (hb)
        clear hb
        refine hK.out _ _ HB4_6.out (fun _ => ?_)
        clear hK K
        go_simp
        refine wpAnyH_take (i := 2) (v := .bool false) rfl (by kernel_rfl) (by kernel_rfl) (by kernel_rfl) (fun _ _ _ h => h) (Or.inl ⟨by kernel_rfl, ?h2⟩) HB4_6.out ?_
        case h2 => (intro WX hWX; go_simp)
        go_simp
        refine wpAnyH_take (i := 3) (v := .bool false) rfl (by kernel_rfl) (by kernel_rfl) (by kernel_rfl) (fun _ _ _ h => h) (Or.inl ⟨by kernel_rfl, ?h3⟩) HB4_6.out ?_
        case h3 => (intro WX hWX; go_simp)
        go_simp
        refine wpAnyH_take (i := 4) (v := .pointer (some ⟨w.heap.size, 7, none⟩)) rfl (by kernel_rfl) (by kernel_rfl) (by kernel_rfl) (fun _ _ _ h => h) (Or.inl ⟨by kernel_rfl, ?h4⟩) HB4_6.out ?_
        case h4 => (intro WX hWX; go_simp)
        go_simp
        refine wpAnyH_take (i := 5) (v := .int .i64 ph) rfl (by kernel_rfl) (by kernel_rfl) (by kernel_rfl) (fun _ _ _ h => h) (Or.inl ⟨by kernel_rfl, ?h5⟩) HB4_6.out ?_
        case h5 => (intro WX hWX; obtain ⟨y0_0, y0_1, y0_2, y0_3, y0_4, y0_5, y0_6, y0_7, y0_8, y0_9, y0_10, y0_11⟩ := cells12 (HX0.out WX (HB0_4.out.trans ((show Below W4.heap.size W4 WX from hWX).mono HB0_4.out.size))); go_simp)
        go_simp
        refine wpAnyH_take (i := 6) (v := .bool false) rfl (by kernel_rfl) (by kernel_rfl) (by kernel_rfl) (fun _ _ _ h => h) (Or.inl ⟨by kernel_rfl, ?h6⟩) HB4_6.out ?_
        case h6 => (intro WX hWX; go_simp)
        go_simp
        refine wpAnyH_take (i := 7) (v := .bool false) rfl (by kernel_rfl) (by kernel_rfl) (by kernel_rfl) (fun _ _ _ h => h) (Or.inl ⟨by kernel_rfl, ?h7⟩) HB4_6.out ?_
        case h7 => (intro WX hWX; go_simp)
        go_simp
        refine wpAnyH_take (i := 8) (v := .bool false) rfl (by kernel_rfl) (by kernel_rfl) (by kernel_rfl) (fun _ _ _ h => h) (Or.inl ⟨by kernel_rfl, ?h8⟩) HB4_6.out ?_
        case h8 => (intro WX hWX; go_simp)
        go_simp
        refine wpAnyH_take (i := 9) (v := .pointer (some ⟨W3.heap.size, 7, none⟩)) rfl (by kernel_rfl) (by kernel_rfl) (by kernel_rfl) (fun _ _ _ h => h) (Or.inl ⟨by kernel_rfl, ?h9⟩) HB4_6.out ?_
        case h9 => (intro WX hWX; go_simp)
        go_simp
        refine wpAnyH_take (i := 10) (v := .int .i64 phA) rfl (by kernel_rfl) (by kernel_rfl) (by kernel_rfl) (fun _ _ _ h => h) (Or.inl ⟨by kernel_rfl, ?h10⟩) HB4_6.out ?_
        case h10 => (intro WX hWX; obtain ⟨y0_0, y0_1, y0_2, y0_3, y0_4, y0_5, y0_6, y0_7, y0_8, y0_9, y0_10, y0_11⟩ := cells12 (HX_p.out WX (show Below W4.heap.size W4 WX from hWX)); go_simp)
        go_simp
        refine wpAnyH_take (i := 11) (v := .pointer (some ⟨w.heap.size, 7, none⟩)) rfl (by kernel_rfl) (by kernel_rfl) (by kernel_rfl) (fun _ _ _ h => h) (Or.inl ⟨by kernel_rfl, ?h11⟩) HB4_6.out ?_
        case h11 => (intro WX hWX; go_simp)
        go_simp
        refine wpAnyH_take (i := 12) (v := .int .i64 ph) rfl (by kernel_rfl) (by kernel_rfl) (by kernel_rfl) (fun _ _ _ h => h) (Or.inl ⟨by kernel_rfl, ?h12⟩) HB4_6.out ?_
        case h12 => (intro WX hWX; obtain ⟨y0_0, y0_1, y0_2, y0_3, y0_4, y0_5, y0_6, y0_7, y0_8, y0_9, y0_10, y0_11⟩ := cells12 (HX0.out WX (HB0_4.out.trans ((show Below W4.heap.size W4 WX from hWX).mono HB0_4.out.size))); go_simp)
        go_simp
        refine wpAnyH_take (i := 13) (v := .bool false) rfl (by kernel_rfl) (by kernel_rfl) (by kernel_rfl) (fun _ _ _ h => h) (Or.inl ⟨by kernel_rfl, ?h13⟩) HB4_6.out ?_
        case h13 => (intro WX hWX; go_simp)
        go_simp
        refine wpAnyH_take (i := 14) (v := .bool false) rfl (by kernel_rfl) (by kernel_rfl) (by kernel_rfl) (fun _ _ _ h => h) (Or.inl ⟨by kernel_rfl, ?h14⟩) HB4_6.out ?_
        case h14 => (intro WX hWX; go_simp)
        go_simp
        refine wpAnyH_take (i := 15) (v := .bool false) rfl (by kernel_rfl) (by kernel_rfl) (by kernel_rfl) (fun _ _ _ h => h) (Or.inl ⟨by kernel_rfl, ?h15⟩) HB4_6.out ?_
        case h15 => (intro WX hWX; go_simp)
        go_simp
        refine wpAnyH_take (i := 16) (v := .pointer (some ⟨W3.heap.size, 0, none⟩)) rfl (by kernel_rfl) (by kernel_rfl) (by kernel_rfl) (fun _ _ _ h => h) (Or.inl ⟨by kernel_rfl, ?h16⟩) HB4_6.out ?_
        case h16 => (intro WX hWX; go_simp)
        go_simp
        refine wpAnyH_take (i := 17) (v := .int .i64 i) rfl (by kernel_rfl) (by kernel_rfl) (by kernel_rfl) (fun _ _ _ h => h) (Or.inl ⟨by kernel_rfl, ?h17⟩) HB4_6.out ?_
        case h17 => (intro WX hWX; obtain ⟨y0_0, y0_1, y0_2, y0_3, y0_4, y0_5, y0_6, y0_7, y0_8, y0_9, y0_10, y0_11⟩ := cells12 (HX_p.out WX (show Below W4.heap.size W4 WX from hWX)); go_simp)
        go_simp
        refine wpAnyH_take (i := 18) (v := .pointer (some ⟨w.heap.size, 0, none⟩)) rfl (by kernel_rfl) (by kernel_rfl) (by kernel_rfl) (fun _ _ _ h => h) (Or.inl ⟨by kernel_rfl, ?h18⟩) HB4_6.out ?_
        case h18 => (intro WX hWX; go_simp)
        go_simp
        refine wpAnyH_take (i := 19) (v := .int .i64 i) rfl (by kernel_rfl) (by kernel_rfl) (by kernel_rfl) (fun _ _ _ h => h) (Or.inl ⟨by kernel_rfl, ?h19⟩) HB4_6.out ?_
        case h19 => (intro WX hWX; obtain ⟨y0_0, y0_1, y0_2, y0_3, y0_4, y0_5, y0_6, y0_7, y0_8, y0_9, y0_10, y0_11⟩ := cells12 (HX0.out WX (HB0_4.out.trans ((show Below W4.heap.size W4 WX from hWX).mono HB0_4.out.size))); go_simp)
        go_simp
        refine wpAnyH_take (i := 20) (v := .bool false) rfl (by kernel_rfl) (by kernel_rfl) (by kernel_rfl) (fun _ _ _ h => h) (Or.inl ⟨by kernel_rfl, ?h20⟩) HB4_6.out ?_
        case h20 => (intro WX hWX; go_simp)
        go_simp
        refine wpAnyH_take (i := 21) (v := .bool false) rfl (by kernel_rfl) (by kernel_rfl) (by kernel_rfl) (fun _ _ _ h => h) (Or.inl ⟨by kernel_rfl, ?h21⟩) HB4_6.out ?_
        case h21 => (intro WX hWX; go_simp)
        go_simp
        refine wpAnyH_take (i := 22) (v := .bool false) rfl (by kernel_rfl) (by kernel_rfl) (by kernel_rfl) (fun _ _ _ h => h) (Or.inl ⟨by kernel_rfl, ?h22⟩) HB4_6.out ?_
        case h22 => (intro WX hWX; go_simp)
        go_simp
        refine wpAnyH_take (i := 23) (v := .pointer (some ⟨W3.heap.size, 1, none⟩)) rfl (by kernel_rfl) (by kernel_rfl) (by kernel_rfl) (fun _ _ _ h => h) (Or.inl ⟨by kernel_rfl, ?h23⟩) HB4_6.out ?_
        case h23 => (intro WX hWX; go_simp)
        go_simp
        refine wpAnyH_take (i := 24) (v := .int .i64 a) rfl (by kernel_rfl) (by kernel_rfl) (by kernel_rfl) (fun _ _ _ h => h) (Or.inl ⟨by kernel_rfl, ?h24⟩) HB4_6.out ?_
        case h24 => (intro WX hWX; obtain ⟨y0_0, y0_1, y0_2, y0_3, y0_4, y0_5, y0_6, y0_7, y0_8, y0_9, y0_10, y0_11⟩ := cells12 (HX_p.out WX (show Below W4.heap.size W4 WX from hWX)); go_simp)
        go_simp
        refine wpAnyH_take (i := 25) (v := .pointer (some ⟨w.heap.size, 1, none⟩)) rfl (by kernel_rfl) (by kernel_rfl) (by kernel_rfl) (fun _ _ _ h => h) (Or.inl ⟨by kernel_rfl, ?h25⟩) HB4_6.out ?_
        case h25 => (intro WX hWX; go_simp)
        go_simp
        refine wpAnyH_take (i := 26) (v := .int .i64 a) rfl (by kernel_rfl) (by kernel_rfl) (by kernel_rfl) (fun _ _ _ h => h) (Or.inl ⟨by kernel_rfl, ?h26⟩) HB4_6.out ?_
        case h26 => (intro WX hWX; obtain ⟨y0_0, y0_1, y0_2, y0_3, y0_4, y0_5, y0_6, y0_7, y0_8, y0_9, y0_10, y0_11⟩ := cells12 (HX0.out WX (HB0_4.out.trans ((show Below W4.heap.size W4 WX from hWX).mono HB0_4.out.size))); go_simp)
        go_simp
        refine wpAnyH_take (i := 27) (v := .bool false) rfl (by kernel_rfl) (by kernel_rfl) (by kernel_rfl) (fun _ _ _ h => h) (Or.inl ⟨by kernel_rfl, ?h27⟩) HB4_6.out ?_
        case h27 => (intro WX hWX; go_simp)
        go_simp
        refine wpAnyH_take (i := 28) (v := .bool false) rfl (by kernel_rfl) (by kernel_rfl) (by kernel_rfl) (fun _ _ _ h => h) (Or.inl ⟨by kernel_rfl, ?h28⟩) HB4_6.out ?_
        case h28 => (intro WX hWX; go_simp)
        go_simp
        refine wpAnyH_take (i := 29) (v := .bool false) rfl (by kernel_rfl) (by kernel_rfl) (by kernel_rfl) (fun _ _ _ h => h) (Or.inl ⟨by kernel_rfl, ?h29⟩) HB4_6.out ?_
        case h29 => (intro WX hWX; go_simp)
        go_simp
        refine wpAnyH_take (i := 30) (v := .pointer (some ⟨W3.heap.size, 2, none⟩)) rfl (by kernel_rfl) (by kernel_rfl) (by kernel_rfl) (fun _ _ _ h => h) (Or.inl ⟨by kernel_rfl, ?h30⟩) HB4_6.out ?_
        case h30 => (intro WX hWX; go_simp)
        go_simp
        refine wpAnyH_take (i := 31) (v := .int .i64 y) rfl (by kernel_rfl) (by kernel_rfl) (by kernel_rfl) (fun _ _ _ h => h) (Or.inl ⟨by kernel_rfl, ?h31⟩) HB4_6.out ?_
        case h31 => (intro WX hWX; obtain ⟨y0_0, y0_1, y0_2, y0_3, y0_4, y0_5, y0_6, y0_7, y0_8, y0_9, y0_10, y0_11⟩ := cells12 (HX_p.out WX (show Below W4.heap.size W4 WX from hWX)); go_simp)
        go_simp
        refine wpAnyH_take (i := 32) (v := .pointer (some ⟨w.heap.size, 2, none⟩)) rfl (by kernel_rfl) (by kernel_rfl) (by kernel_rfl) (fun _ _ _ h => h) (Or.inl ⟨by kernel_rfl, ?h32⟩) HB4_6.out ?_
        case h32 => (intro WX hWX; go_simp)
        go_simp
        refine wpAnyH_take (i := 33) (v := .int .i64 y) rfl (by kernel_rfl) (by kernel_rfl) (by kernel_rfl) (fun _ _ _ h => h) (Or.inl ⟨by kernel_rfl, ?h33⟩) HB4_6.out ?_
        case h33 => (intro WX hWX; obtain ⟨y0_0, y0_1, y0_2, y0_3, y0_4, y0_5, y0_6, y0_7, y0_8, y0_9, y0_10, y0_11⟩ := cells12 (HX0.out WX (HB0_4.out.trans ((show Below W4.heap.size W4 WX from hWX).mono HB0_4.out.size))); go_simp)
        go_simp
        refine wpAnyH_take (i := 34) (v := .bool false) rfl (by kernel_rfl) (by kernel_rfl) (by kernel_rfl) (fun _ _ _ h => h) (Or.inl ⟨by kernel_rfl, ?h34⟩) HB4_6.out ?_
        case h34 => (intro WX hWX; go_simp)
        go_simp
        refine wpAnyH_take (i := 35) (v := .bool false) rfl (by kernel_rfl) (by kernel_rfl) (by kernel_rfl) (fun _ _ _ h => h) (Or.inl ⟨by kernel_rfl, ?h35⟩) HB4_6.out ?_
        case h35 => (intro WX hWX; go_simp)
        go_simp
        refine wpAnyH_take (i := 36) (v := .bool false) rfl (by kernel_rfl) (by kernel_rfl) (by kernel_rfl) (fun _ _ _ h => h) (Or.inl ⟨by kernel_rfl, ?h36⟩) HB4_6.out ?_
        case h36 => (intro WX hWX; go_simp)
        go_simp
        refine wpAnyH_take (i := 37) (v := .pointer (some ⟨W3.heap.size, 3, none⟩)) rfl (by kernel_rfl) (by kernel_rfl) (by kernel_rfl) (fun _ _ _ h => h) (Or.inl ⟨by kernel_rfl, ?h37⟩) HB4_6.out ?_
        case h37 => (intro WX hWX; go_simp)
        go_simp
        refine wpAnyH_take (i := 38) (v := .int .i64 d) rfl (by kernel_rfl) (by kernel_rfl) (by kernel_rfl) (fun _ _ _ h => h) (Or.inl ⟨by kernel_rfl, ?h38⟩) HB4_6.out ?_
        case h38 => (intro WX hWX; obtain ⟨y0_0, y0_1, y0_2, y0_3, y0_4, y0_5, y0_6, y0_7, y0_8, y0_9, y0_10, y0_11⟩ := cells12 (HX_p.out WX (show Below W4.heap.size W4 WX from hWX)); go_simp)
        go_simp
        refine wpAnyH_take (i := 39) (v := .pointer (some ⟨w.heap.size, 3, none⟩)) rfl (by kernel_rfl) (by kernel_rfl) (by kernel_rfl) (fun _ _ _ h => h) (Or.inl ⟨by kernel_rfl, ?h39⟩) HB4_6.out ?_
        case h39 => (intro WX hWX; go_simp)
        go_simp
        refine wpAnyH_take (i := 40) (v := .int .i64 d) rfl (by kernel_rfl) (by kernel_rfl) (by kernel_rfl) (fun _ _ _ h => h) (Or.inl ⟨by kernel_rfl, ?h40⟩) HB4_6.out ?_
        case h40 => (intro WX hWX; obtain ⟨y0_0, y0_1, y0_2, y0_3, y0_4, y0_5, y0_6, y0_7, y0_8, y0_9, y0_10, y0_11⟩ := cells12 (HX0.out WX (HB0_4.out.trans ((show Below W4.heap.size W4 WX from hWX).mono HB0_4.out.size))); go_simp)
        go_simp
        refine wpAnyH_take (i := 41) (v := .bool false) rfl (by kernel_rfl) (by kernel_rfl) (by kernel_rfl) (fun _ _ _ h => h) (Or.inl ⟨by kernel_rfl, ?h41⟩) HB4_6.out ?_
        case h41 => (intro WX hWX; go_simp)
        go_simp
        refine wpAnyH_take (i := 42) (v := .bool false) rfl (by kernel_rfl) (by kernel_rfl) (by kernel_rfl) (fun _ _ _ h => h) (Or.inl ⟨by kernel_rfl, ?h42⟩) HB4_6.out ?_
        case h42 => (intro WX hWX; go_simp)
        go_simp
        refine wpAnyH_take (i := 43) (v := .bool false) rfl (by kernel_rfl) (by kernel_rfl) (by kernel_rfl) (fun _ _ _ h => h) (Or.inl ⟨by kernel_rfl, ?h43⟩) HB4_6.out ?_
        case h43 => (intro WX hWX; go_simp)
        go_simp
        refine wpAnyH_take (i := 44) (v := .pointer (some ⟨W3.heap.size, 6, none⟩)) rfl (by kernel_rfl) (by kernel_rfl) (by kernel_rfl) (fun _ _ _ h => h) (Or.inl ⟨by kernel_rfl, ?h44⟩) HB4_6.out ?_
        case h44 => (intro WX hWX; go_simp)
        go_simp
        refine wpAnyH_take (i := 45) (v := .int .i64 fA) rfl (by kernel_rfl) (by kernel_rfl) (by kernel_rfl) (fun _ _ _ h => h) (Or.inl ⟨by kernel_rfl, ?h45⟩) HB4_6.out ?_
        case h45 => (intro WX hWX; obtain ⟨y0_0, y0_1, y0_2, y0_3, y0_4, y0_5, y0_6, y0_7, y0_8, y0_9, y0_10, y0_11⟩ := cells12 (HX_p.out WX (show Below W4.heap.size W4 WX from hWX)); go_simp)
        go_simp
        refine wpAnyH_take (i := 46) (v := .pointer (some ⟨w.heap.size, 6, none⟩)) rfl (by kernel_rfl) (by kernel_rfl) (by kernel_rfl) (fun _ _ _ h => h) (Or.inl ⟨by kernel_rfl, ?h46⟩) HB4_6.out ?_
        case h46 => (intro WX hWX; go_simp)
        go_simp
        refine wpAnyH_take (i := 47) (v := .int .i64 f) rfl (by kernel_rfl) (by kernel_rfl) (by kernel_rfl) (fun _ _ _ h => h) (Or.inl ⟨by kernel_rfl, ?h47⟩) HB4_6.out ?_
        case h47 => (intro WX hWX; obtain ⟨y0_0, y0_1, y0_2, y0_3, y0_4, y0_5, y0_6, y0_7, y0_8, y0_9, y0_10, y0_11⟩ := cells12 (HX0.out WX (HB0_4.out.trans ((show Below W4.heap.size W4 WX from hWX).mono HB0_4.out.size))); go_simp)
        go_simp
        refine wpAnyH_take (i := 48) (v := .bool false) rfl (by kernel_rfl) (by kernel_rfl) (by kernel_rfl) (fun _ _ _ h => h) (Or.inl ⟨by kernel_rfl, ?h48⟩) HB4_6.out ?_
        case h48 => (intro WX hWX; go_simp)
        go_simp
        refine wpAnyH_take (i := 49) (v := .bool false) rfl (by kernel_rfl) (by kernel_rfl) (by kernel_rfl) (fun _ _ _ h => h) (Or.inl ⟨by kernel_rfl, ?h49⟩) HB4_6.out ?_
        case h49 => (intro WX hWX; go_simp)
        go_simp
        refine wpAnyH_take (i := 50) (v := .bool false) rfl (by kernel_rfl) (by kernel_rfl) (by kernel_rfl) (fun _ _ _ h => h) (Or.inl ⟨by kernel_rfl, ?h50⟩) HB4_6.out ?_
        case h50 => (intro WX hWX; go_simp)
        go_simp
        refine wpAnyH_take (i := 51) (v := .pointer (some ⟨W3.heap.size, 10, none⟩)) rfl (by kernel_rfl) (by kernel_rfl) (by kernel_rfl) (fun _ _ _ h => h) (Or.inl ⟨by kernel_rfl, ?h51⟩) HB4_6.out ?_
        case h51 => (intro WX hWX; go_simp)
        go_simp
        refine wpAnyH_take (i := 52) (v := .int .i64 v) rfl (by kernel_rfl) (by kernel_rfl) (by kernel_rfl) (fun _ _ _ h => h) (Or.inl ⟨by kernel_rfl, ?h52⟩) HB4_6.out ?_
        case h52 => (intro WX hWX; obtain ⟨y0_0, y0_1, y0_2, y0_3, y0_4, y0_5, y0_6, y0_7, y0_8, y0_9, y0_10, y0_11⟩ := cells12 (HX_p.out WX (show Below W4.heap.size W4 WX from hWX)); go_simp)
        go_simp
        refine wpAnyH_take (i := 53) (v := .pointer (some ⟨w.heap.size, 10, none⟩)) rfl (by kernel_rfl) (by kernel_rfl) (by kernel_rfl) (fun _ _ _ h => h) (Or.inl ⟨by kernel_rfl, ?h53⟩) HB4_6.out ?_
        case h53 => (intro WX hWX; go_simp)
        go_simp
        refine wpAnyH_take (i := 54) (v := .int .i64 v) rfl (by kernel_rfl) (by kernel_rfl) (by kernel_rfl) (fun _ _ _ h => h) (Or.inl ⟨by kernel_rfl, ?h54⟩) HB4_6.out ?_
        case h54 => (intro WX hWX; obtain ⟨y0_0, y0_1, y0_2, y0_3, y0_4, y0_5, y0_6, y0_7, y0_8, y0_9, y0_10, y0_11⟩ := cells12 (HX0.out WX (HB0_4.out.trans ((show Below W4.heap.size W4 WX from hWX).mono HB0_4.out.size))); go_simp)
        go_simp
        refine wpAnyH_take (i := 55) (v := .bool false) rfl (by kernel_rfl) (by kernel_rfl) (by kernel_rfl) (fun _ _ _ h => h) (Or.inl ⟨by kernel_rfl, ?h55⟩) HB4_6.out ?_
        case h55 => (intro WX hWX; go_simp)
        go_simp
        refine wpAnyH_take (i := 56) (v := .bool false) rfl (by kernel_rfl) (by kernel_rfl) (by kernel_rfl) (fun _ _ _ h => h) (Or.inl ⟨by kernel_rfl, ?h56⟩) HB4_6.out ?_
        case h56 => (intro WX hWX; go_simp)
        go_simp
        refine wpAnyH_take (i := 57) (v := .bool false) rfl (by kernel_rfl) (by kernel_rfl) (by kernel_rfl) (fun _ _ _ h => h) (Or.inl ⟨by kernel_rfl, ?h57⟩) HB4_6.out ?_
        case h57 => (intro WX hWX; go_simp)
        go_simp
        refine wpAnyH_take (i := 58) (v := .pointer (some ⟨W3.heap.size, 11, none⟩)) rfl (by kernel_rfl) (by kernel_rfl) (by kernel_rfl) (fun _ _ _ h => h) (Or.inl ⟨by kernel_rfl, ?h58⟩) HB4_6.out ?_
        case h58 => (intro WX hWX; go_simp)
        go_simp
        refine wpAnyH_take (i := 59) (v := .bool g) rfl (by kernel_rfl) (by kernel_rfl) (by kernel_rfl) (fun _ _ _ h => h) (Or.inl ⟨by kernel_rfl, ?h59⟩) HB4_6.out ?_
        case h59 => (intro WX hWX; obtain ⟨y0_0, y0_1, y0_2, y0_3, y0_4, y0_5, y0_6, y0_7, y0_8, y0_9, y0_10, y0_11⟩ := cells12 (HX_p.out WX (show Below W4.heap.size W4 WX from hWX)); go_simp)
        go_simp
        refine wpAnyH_take (i := 60) (v := .pointer (some ⟨w.heap.size, 11, none⟩)) rfl (by kernel_rfl) (by kernel_rfl) (by kernel_rfl) (fun _ _ _ h => h) (Or.inl ⟨by kernel_rfl, ?h60⟩) HB4_6.out ?_
        case h60 => (intro WX hWX; go_simp)
        go_simp
        refine wpAnyH_take (i := 61) (v := .bool g) rfl (by kernel_rfl) (by kernel_rfl) (by kernel_rfl) (fun _ _ _ h => h) (Or.inl ⟨by kernel_rfl, ?h61⟩) HB4_6.out ?_
        case h61 => (intro WX hWX; obtain ⟨y0_0, y0_1, y0_2, y0_3, y0_4, y0_5, y0_6, y0_7, y0_8, y0_9, y0_10, y0_11⟩ := cells12 (HX0.out WX (HB0_4.out.trans ((show Below W4.heap.size W4 WX from hWX).mono HB0_4.out.size))); go_simp)
        go_simp
        refine wpAnyH_take (i := 62) (v := .bool false) rfl (by kernel_rfl) (by kernel_rfl) (by kernel_rfl) (fun _ _ _ h => h) (Or.inl ⟨by kernel_rfl, ?h62⟩) HB4_6.out ?_
        case h62 => (intro WX hWX; go_simp)
        go_simp
        refine wpAnyH_take (i := 63) (v := .bool false) rfl (by kernel_rfl) (by kernel_rfl) (by kernel_rfl) (fun _ _ _ h => h) (Or.inl ⟨by kernel_rfl, ?h63⟩) HB4_6.out ?_
        case h63 => (intro WX hWX; go_simp)
        go_simp
        refine wpAnyH_take (i := 64) (v := .bool false) rfl (by kernel_rfl) (by kernel_rfl) (by kernel_rfl) (fun _ _ _ h => h) (Or.inl ⟨by kernel_rfl, ?h64⟩) HB4_6.out ?_
        case h64 => (intro WX hWX; go_simp)
        go_simp
        refine wpAnyH_take (i := 65) (v := .agg #[.int .i64 i, .int .i64 a, .int .i64 y, .int .i64 d, .int .i64 qA, .int .i64 pA, .int .i64 fA, .int .i64 phA, .int .i64 mA, .int .i64 rA, .int .i64 v, .bool g]) rfl (by kernel_rfl) (by kernel_rfl) (by kernel_rfl) (fun _ _ _ h => h) (Or.inl ⟨by kernel_rfl, ?h65⟩) HB4_6.out ?_
        case h65 => (intro WX hWX; obtain ⟨y0_0, y0_1, y0_2, y0_3, y0_4, y0_5, y0_6, y0_7, y0_8, y0_9, y0_10, y0_11⟩ := cells12 (HX_p.out WX (show Below W4.heap.size W4 WX from hWX)); go_simp)
        go_simp
        refine wpAnyH_take (i := 67) (v := .agg #[.int .i64 i, .int .i64 a, .int .i64 y, .int .i64 d, .int .i64 q, .int .i64 p, .int .i64 f, .int .i64 ph, .int .i64 m, .int .i64 r, .int .i64 v, .bool g]) rfl (by kernel_rfl) (by kernel_rfl) (by kernel_rfl) (fun _ _ _ h => h) (Or.inl ⟨by kernel_rfl, ?h67⟩) HB4_6.out ?_
        case h67 => (intro WX hWX; obtain ⟨y0_0, y0_1, y0_2, y0_3, y0_4, y0_5, y0_6, y0_7, y0_8, y0_9, y0_10, y0_11⟩ := cells12 (HX0.out WX (HB0_4.out.trans ((show Below W4.heap.size W4 WX from hWX).mono HB0_4.out.size))); go_simp)
        go_simp
        refine wpAnyH_ready (rs := [66]) (by kernel_rfl) (by simp) ?_
        refine AllReadyH.cons rfl (fun K hK => ?_) AllReadyH.nil
        go_simp
        go_wp2_with (refine Calls.mono (order.open_is i a y d qA pA fA phA mA rA v g HFA.out HO2.out _) ?_; rintro e7 W7 ⟨rfl, hb⟩)
        have HB0_7 : Hid (Below W0.heap.size W0 W7) := Lib.hid (HB0_6.out.trans ((hb : Below W6.heap.size W6 W7).mono HB0_6.out.size))
        have HB1_7 : Hid (Below W1.heap.size W1 W7) := Lib.hid (HB1_6.out.trans ((hb : Below W6.heap.size W6 W7).mono HB1_6.out.size))
        have HB2_7 : Hid (Below W2.heap.size W2 W7) := Lib.hid (HB2_6.out.trans ((hb : Below W6.heap.size W6 W7).mono HB2_6.out.size))
        have HB3_7 : Hid (Below W3.heap.size W3 W7) := Lib.hid (HB3_6.out.trans ((hb : Below W6.heap.size W6 W7).mono HB3_6.out.size))
        have HB4_7 : Hid (Below W4.heap.size W4 W7) := Lib.hid (HB4_6.out.trans ((hb : Below W6.heap.size W6 W7).mono HB4_6.out.size))
        have HB5_7 : Hid (Below W5.heap.size W5 W7) := Lib.hid (HB5_6.out.trans ((hb : Below W6.heap.size W6 W7).mono HB5_6.out.size))
        have HB6_7 : Hid (Below W6.heap.size W6 W7) := Lib.hid (hb)
        clear hb
        refine hK.out _ _ HB4_7.out (fun _ => ?_)
        clear hK K
        go_simp
        refine wpAnyH_ready (rs := [68]) (by kernel_rfl) (by simp) ?_
        refine AllReadyH.cons rfl (fun K hK => ?_) AllReadyH.nil
        go_simp
        go_wp2_with (refine Calls.mono (order.open_is i a y d q p f ph m r v g HF.out HO1.out _) ?_; rintro e8 W8 ⟨rfl, hb⟩)
        have HB0_8 : Hid (Below W0.heap.size W0 W8) := Lib.hid (HB0_7.out.trans ((hb : Below W7.heap.size W7 W8).mono HB0_7.out.size))
        have HB1_8 : Hid (Below W1.heap.size W1 W8) := Lib.hid (HB1_7.out.trans ((hb : Below W7.heap.size W7 W8).mono HB1_7.out.size))
        have HB2_8 : Hid (Below W2.heap.size W2 W8) := Lib.hid (HB2_7.out.trans ((hb : Below W7.heap.size W7 W8).mono HB2_7.out.size))
        have HB3_8 : Hid (Below W3.heap.size W3 W8) := Lib.hid (HB3_7.out.trans ((hb : Below W7.heap.size W7 W8).mono HB3_7.out.size))
        have HB4_8 : Hid (Below W4.heap.size W4 W8) := Lib.hid (HB4_7.out.trans ((hb : Below W7.heap.size W7 W8).mono HB4_7.out.size))
        have HB5_8 : Hid (Below W5.heap.size W5 W8) := Lib.hid (HB5_7.out.trans ((hb : Below W7.heap.size W7 W8).mono HB5_7.out.size))
        have HB6_8 : Hid (Below W6.heap.size W6 W8) := Lib.hid (HB6_7.out.trans ((hb : Below W7.heap.size W7 W8).mono HB6_7.out.size))
        have HB7_8 : Hid (Below W7.heap.size W7 W8) := Lib.hid (hb)
        clear hb
        refine hK.out _ _ HB4_8.out (fun _ => ?_)
        clear hK K
        go_simp
        refine wpAnyH_take (i := 69) (v := .bool false) rfl (by kernel_rfl) (by kernel_rfl) (by kernel_rfl) (fun _ _ _ h => h) (Or.inl ⟨by kernel_rfl, ?h69⟩) HB4_8.out ?_
        case h69 => (intro WX hWX; go_simp)
        go_simp
        refine wpAnyH_take (i := 70) (v := .bool false) rfl (by kernel_rfl) (by kernel_rfl) (by kernel_rfl) (fun _ _ _ h => h) (Or.inl ⟨by kernel_rfl, ?h70⟩) HB4_8.out ?_
        case h70 => (intro WX hWX; go_simp)
        go_simp
        refine wpAnyH_done (by kernel_rfl) ?_ _
        go_wp2_with fail
        go_meet
        exact ⟨rfl, HB4_8.out⟩
      case rest =>
        obtain ⟨rfl, hgc⟩ := hcut
        obtain ⟨W5, hWc⟩ : ∃ W, W = wc := ⟨_, rfl⟩
        rw [← hWc] at hgc ⊢
        have HB0_5 : Hid (Below W0.heap.size W0 W5) := Lib.hid (HB0_4.out.trans ((hgc : Below W4.heap.size W4 W5).mono HB0_4.out.size))
        have HB1_5 : Hid (Below W1.heap.size W1 W5) := Lib.hid (HB1_4.out.trans ((hgc : Below W4.heap.size W4 W5).mono HB1_4.out.size))
        have HB2_5 : Hid (Below W2.heap.size W2 W5) := Lib.hid (HB2_4.out.trans ((hgc : Below W4.heap.size W4 W5).mono HB2_4.out.size))
        have HB3_5 : Hid (Below W3.heap.size W3 W5) := Lib.hid (HB3_4.out.trans ((hgc : Below W4.heap.size W4 W5).mono HB3_4.out.size))
        have HB4_5 : Hid (Below W4.heap.size W4 W5) := Lib.hid (hgc)
        clear hgc hWc wc
        obtain ⟨k_0, k_1, k_2, k_3, k_4, k_5, k_6, k_7, k_8, k_9, k_10, k_11⟩ := cells12 (HX0.out W5 HB0_5.out)
        go_wp2_with fail
        refine Calls.mono (order.worth_is i a y d q p f ph m r v g HF.out HW1'.out _) ?_
        rintro e6 W6 ⟨rfl, hb⟩
        have HB0_6 : Hid (Below W0.heap.size W0 W6) := Lib.hid (HB0_5.out.trans ((hb : Below W5.heap.size W5 W6).mono HB0_5.out.size))
        have HB1_6 : Hid (Below W1.heap.size W1 W6) := Lib.hid (HB1_5.out.trans ((hb : Below W5.heap.size W5 W6).mono HB1_5.out.size))
        have HB2_6 : Hid (Below W2.heap.size W2 W6) := Lib.hid (HB2_5.out.trans ((hb : Below W5.heap.size W5 W6).mono HB2_5.out.size))
        have HB3_6 : Hid (Below W3.heap.size W3 W6) := Lib.hid (HB3_5.out.trans ((hb : Below W5.heap.size W5 W6).mono HB3_5.out.size))
        have HB4_6 : Hid (Below W4.heap.size W4 W6) := Lib.hid (HB4_5.out.trans ((hb : Below W5.heap.size W5 W6).mono HB4_5.out.size))
        have HB5_6 : Hid (Below W5.heap.size W5 W6) := Lib.hid (hb)
        clear hb
        clear k_0 k_1 k_2 k_3 k_4 k_5 k_6 k_7 k_8 k_9 k_10 k_11
        obtain ⟨p_0, p_1, p_2, p_3, p_4, p_5, p_6, p_7, p_8, p_9, p_10, p_11⟩ := cells12 (HX_p.out W6 HB4_6.out)
        go_wp2_with fail
        refine Calls.mono (order.worth_is i a y d qA pA fA phA mA rA v g HFA.out HW2'.out _) ?_
        rintro e7 W7 ⟨rfl, hb⟩
        have HB0_7 : Hid (Below W0.heap.size W0 W7) := Lib.hid (HB0_6.out.trans ((hb : Below W6.heap.size W6 W7).mono HB0_6.out.size))
        have HB1_7 : Hid (Below W1.heap.size W1 W7) := Lib.hid (HB1_6.out.trans ((hb : Below W6.heap.size W6 W7).mono HB1_6.out.size))
        have HB2_7 : Hid (Below W2.heap.size W2 W7) := Lib.hid (HB2_6.out.trans ((hb : Below W6.heap.size W6 W7).mono HB2_6.out.size))
        have HB3_7 : Hid (Below W3.heap.size W3 W7) := Lib.hid (HB3_6.out.trans ((hb : Below W6.heap.size W6 W7).mono HB3_6.out.size))
        have HB4_7 : Hid (Below W4.heap.size W4 W7) := Lib.hid (HB4_6.out.trans ((hb : Below W6.heap.size W6 W7).mono HB4_6.out.size))
        have HB5_7 : Hid (Below W5.heap.size W5 W7) := Lib.hid (HB5_6.out.trans ((hb : Below W6.heap.size W6 W7).mono HB5_6.out.size))
        have HB6_7 : Hid (Below W6.heap.size W6 W7) := Lib.hid (hb)
        clear hb
        clear p_0 p_1 p_2 p_3 p_4 p_5 p_6 p_7 p_8 p_9 p_10 p_11
        rcases eq_cases e1 0 with ⟨HE1, he1, hf1⟩ | ⟨HE1, he1, hf1⟩
        · obtain ⟨rfl, hle⟩ := HWW.out HE1.out
          go_wp2_with fail
          go_ret
          exact ⟨rec.retB (by first | rfl | (simp; omega)), HBW.out.trans (HB0_7.out.mono HBW.out.size)⟩
        · go_wp2_with fail
          go_ret
          exact ⟨rfl, HBW.out.trans (HB0_7.out.mono HBW.out.size)⟩
    · obtain ⟨hpo, he⟩ := he
      have HPO := Lib.hid hpo
      clear hpo
      rcases he with rfl | rfl
      · have heq : ∀ W, (Op.equalIn 10000 23 (.agg #[.int .i64 iA, .int .i64 aA, .int .i64 yA, .int .i64 dA, .int .i64 qA, .int .i64 pA, .int .i64 fA, .int .i64 phA, .int .i64 mA, .int .i64 rA, .int .i64 vA, .bool gA]) (.agg #[.int .i64 i, .int .i64 a, .int .i64 y, .int .i64 d, .int .i64 q, .int .i64 p, .int .i64 f, .int .i64 ph, .int .i64 m, .int .i64 r, .int .i64 v, .bool g])).run Try.prog W = .ok true W := fun W => eq12_of rfl rfl HFA.out HF.out (decide_eq_true HPO.out) W
        obtain ⟨k_0, k_1, k_2, k_3, k_4, k_5, k_6, k_7, k_8, k_9, k_10, k_11⟩ := cells12 (HX0.out W4 HB0_4.out)
        rw [← HW4.out] at k_0 k_1 k_2 k_3 k_4 k_5 k_6 k_7 k_8 k_9 k_10 k_11
        go_wp2_with fail
        go_ret
        exact ⟨rfl, by rw [HW4.out]; exact HBW.out.trans (HB0_4.out.mono HBW.out.size)⟩
      · have heq : ∀ W, (Op.equalIn 10000 23 (.agg #[.int .i64 iA, .int .i64 aA, .int .i64 yA, .int .i64 dA, .int .i64 qA, .int .i64 pA, .int .i64 fA, .int .i64 phA, .int .i64 mA, .int .i64 rA, .int .i64 vA, .bool gA]) (.agg #[.int .i64 i, .int .i64 a, .int .i64 y, .int .i64 d, .int .i64 q, .int .i64 p, .int .i64 f, .int .i64 ph, .int .i64 m, .int .i64 r, .int .i64 v, .bool g])).run Try.prog W = .ok true W := fun W => eq12_of rfl rfl HFA.out HF.out (decide_eq_true HPO.out) W
        obtain ⟨k_0, k_1, k_2, k_3, k_4, k_5, k_6, k_7, k_8, k_9, k_10, k_11⟩ := cells12 (HX0.out W4 HB0_4.out)
        rw [← HW4.out] at k_0 k_1 k_2 k_3 k_4 k_5 k_6 k_7 k_8 k_9 k_10 k_11
        go_wp2_with fail
        go_ret
        exact ⟨rfl, by rw [HW4.out]; exact HBW.out.trans (HB0_4.out.mono HBW.out.size)⟩
  -- WALK ENDS

set_option maxRecDepth 100000 in
theorem lifted (os : Os) (started : os.Started) (H : Type) (enc : TypeId × Value → H) :
    ReturnsInHanded {} Try.checked os 4 .any (Rows.orderLessSpec.pre6 enc Try.prog Try.f4 Rows.orderLessRow.domain false) (Rows.orderLessSpec.post enc Try.prog Try.f4 false true false false) := by
  refine returnsInHanded_of_change (C := Try.checked) own started (by kernel_rfl) Try.func4
    (ChangeSpec.witness6 (enc := enc) (C := Try.checked) false ⟨#[], #[.agg #[.int .i64 0, .int .i64 0, .int .i64 0, .int .i64 0, .int .i64 0, .int .i64 0, .int .i64 0, .int .i64 0, .int .i64 0, .int .i64 0, .int .i64 0, .bool false], .agg #[.int .i64 0, .int .i64 0, .int .i64 0, .int .i64 0, .int .i64 0]], []⟩ 8 (by kernel_rfl) (by kernel_rfl) (by kernel_rfl) (by kernel_rfl)) ?_
  intro W base args ds gs before hval0 hW hcnd _
  have hval : ∀ (j : Nat) t v, Try.f4.params[j]? = some t → args[j]? = some v → Value.okWide Try.prog W .any base t v := hval0
  have hW' := hW
  obtain ⟨p, q, hA0, hV, rfl, hfz, hnd⟩ := hW
  have hA : DataW.TrodAll enc Try.prog W 0 (fun _ => true) true Try.f4.params.toList args.toList ds p := hA0
  rw [Try.params4] at hA hval
  obtain ⟨v0, vs0, d0, ds0, p0_, q0, hargs, rfl, rfl, h0, r0⟩ := trodAll_cons hA
  obtain ⟨v1, vs1, d1, ds1, p1_, q1, rfl, rfl, rfl, h1, r1⟩ := trodAll_cons r0
  obtain ⟨rfl, rfl, rfl⟩ := trodAll_nil r1
  obtain rfl : args = #[v0, v1] := by cases args; simp_all
  obtain ⟨rfl, rfl⟩ := trodVars_none hV
  obtain ⟨cs0, rfl, hsz0⟩ := okWide_struct Try.underlying23 (hval 0 23 v0 rfl rfl)
  have k0 := h0
  have lt0 : ∀ x ∈ p0_, x.block < W.heap.size := by obtain ⟨m, hm⟩ := k0; exact DataW.trod_lt m _ _ _ hm
  obtain ⟨x0, w0⟩ := of_arg of_order k0
  obtain ⟨cs1, rfl, hsz1⟩ := okWide_struct Try.underlying27 (hval 1 27 v1 rfl rfl)
  have k1 := h1
  have lt1 : ∀ x ∈ p1_, x.block < W.heap.size := by obtain ⟨m, hm⟩ := k1; exact DataW.trod_lt m _ _ _ hm
  obtain ⟨x1, w1⟩ := of_arg of_note k1
  clear hA0 hval0
  refine (walk cs0 x0 cs1 x1 W w0 w1).mono fun e W' ⟨he, bel⟩ => ?_
  subst he
  exact ⟨_, rfl, _, _, _, [], _, [], hW', trodAll_mk1 (shut_bool Try.underlying4 _), (trodAll_cons_mk (Below.trod laidOut (by kernel_rfl) (of_decide_eq_true (by kernel_rfl)) k0 bel lt0) (trodAll_cons_mk (Below.trod laidOut (by kernel_rfl) (of_decide_eq_true (by kernel_rfl)) k1 bel lt1) trodAll_mk0)), rfl, bel.frame _, fun h => by cases h⟩

theorem over : Rows.orderLessRow.holds Try.pinned (OpenSpec.ofChange Rows.orderLessSpec) :=
  OpenClaim.holds_of_wide 4 Try.f4 rfl rfl rfl rfl rfl rfl rfl ⟨rfl, rfl, rfl, rfl, rfl⟩ rfl rfl rfl rfl rfl (by kernel_rfl) Try.func4 (by kernel_rfl)
    (of_decide_eq_true (by kernel_rfl)) (by unfold Func.isWrapper; first | (rw [if_pos (by decide +kernel)]; kernel_rfl) | (rw [if_neg (by decide +kernel)]; exact ⟨rfl, rfl⟩))
    (fun os started H enc _ => lifted os started H enc)

theorem proved : Rows.OrderLessSaid := over
#print axioms proved
end Go.Proofs.Ytfnapckjccjjjaa.orderLess
