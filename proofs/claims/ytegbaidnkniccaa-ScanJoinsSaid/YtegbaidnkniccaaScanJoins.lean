/-
  PROVED: the law ScanJoins answers true at every input, and leaves what it was given as it was.
  CONDITIONS: none.
-/
import Derived.Test.YtegbaidnkniccaaRows
import Derived.WalkKit
import Derived.ProofKit
import Derived.OpenShut
import Derived.ShutString
import Derived.ChangeOld
import Derived.Below
import Derived.Test.YtegbaidnkniccaaScanApp
import Derived.Test.YtegbaidnkniccaaStr
import Derived.Deep.DeepCutAuto
import Derived.Deep.DrawnRows
namespace Go.Proofs.Ytegbaidnkniccaa.scanJoins
open Go.ChangeShapes Go.WideShapes Go.ChangeAt Go.RowKit
open Go.ChangeMaps (open_string shut_string)
set_option linter.unusedVariables false

theorem own : ownKnob Try.prog.godebug = none := by kernel_rfl
theorem laidOut : laidOutB Try.prog = true := by kernel_rfl

attribute [local go_sem] undef
attribute [local go_sem ↓] Go.wp_at_zero Go.wp_at_succ

set_option maxRecDepth 100000 in
set_option maxHeartbeats 4000000 in
theorem walk (p0 : Option Addr) (n0 c0 : Nat) (x0 : List (FrameD)) (p1 : Option Addr) (n1 c1 : Nat) (x1 : List (FrameD)) (a2 : Int) (a3 : Int) (w : World) (w0 : (rdSlice rdFrame 9) w (Lt w.heap.size) [.slice p0 n0 c0] x0) (w1 : (rdSlice rdFrame 9) w (Lt w.heap.size) [.slice p1 n1 c1] x1) (w2 : (Lit.int .i64 a2).wf = true) (w3 : (Lit.int .i64 a3).wf = true) :
    Calls Try.prog 6 #[.slice p0 n0 c0, .slice p1 n1 c1, .int .i64 a2, .int .i64 a3] w fun e w' => e = .returned (.bool true) ∧ Below w.heap.size w w' := by
  obtain ⟨hf, hfn, hfc, hfm⟩ := scan.frs_of w0
  obtain ⟨hg, hgn, hgc, hgm⟩ := scan.frs_of w1
  have hi2 := inI_of_wf w2
  unfold inI at hi2
  have HFI := Lib.hid (Frs.fine hf)
  have HF : Hid (∀ W, Below w.heap.size w W → Frs W w.heap.size p0 x0) := Lib.hid (fun W hb => hf.below hb)
  have HG : Hid (∀ W, Below w.heap.size w W → Frs W w.heap.size p1 x1) := Lib.hid (fun W hb => hg.below hb)
  have HFN := Lib.hid hfn
  have HGN := Lib.hid hgn
  clear hf hg hfn hgn w0 w1 w2 w3
  by_cases h20 : 20 < n0
  · go_enter Try.func6, Try.ntmps6
    go_wp2_with ((with_reducible refine (scan.awake_any _).mono ?_); rintro e w1 ⟨rfl, hb1⟩)
    go_ret
    exact ⟨rfl, hb1⟩
  by_cases h21 : 20 < n1
  · go_enter Try.func6, Try.ntmps6
    go_wp2_with ((with_reducible refine (scan.awake_any _).mono ?_); rintro e w1 ⟨rfl, hb1⟩)
    go_ret
    exact ⟨rfl, hb1⟩
  have hn0 : n0 ≤ 20 := by omega
  have hn1 : n1 ≤ 20 := by omega
  clear h20 h21
  obtain ⟨q, HQ⟩ : ∃ q, Hid (scan.row x0 a2 a3 = q) := ⟨_, Lib.hid rfl⟩
  rcases q with _ | _
  · go_enter Try.func6, Try.ntmps6
    go_wp2_with ((with_reducible refine (scan.awake_any _).mono ?_); rintro e w1 ⟨rfl, hb1⟩)
    have HB1 := Lib.hid hb1
    clear hb1
    refine Calls.mono (scan.row_of w1 (HF.out w1 HB1.out) HB1.out.size HFN.out (by omega) HQ.out) ?_
    rintro e w2 ⟨rfl, hb2⟩
    have HB2 : Hid (Below w.heap.size w w2) := Lib.hid (HB1.out.trans (hb2.mono HB1.out.size))
    clear hb2
    go_wp2
    go_ret
    exact ⟨rfl, HB2.out⟩
  by_cases ha : a2 < 1
  · have hn00 : n0 = 0 := by
      rcases n0 with _ | n0
      · rfl
      · exfalso
        obtain ⟨f, hff⟩ : ∃ f, x0[n0]? = some f := ⟨x0[n0]'(by rw [HFN.out]; omega), List.getElem?_eq_getElem (by rw [HFN.out]; omega)⟩
        rcases x0 with _ | ⟨g, l⟩
        · have := HFN.out; simp at this
        · obtain ⟨h1, h2, _, _⟩ := (scan.row_cons _ _ _ _).1 HQ.out
          have := (frame.right_fit h1).2.2.1
          omega
    subst hn00
    go_enter Try.func6, Try.ntmps6
    go_wp2_with ((with_reducible refine (scan.awake_any _).mono ?_); rintro e w1 ⟨rfl, hb1⟩)
    have HB1 := Lib.hid hb1
    clear hb1
    refine Calls.mono (scan.row_of w1 (HF.out w1 HB1.out) HB1.out.size HFN.out (by omega) HQ.out) ?_
    rintro e w2 ⟨rfl, hb2⟩
    have HB2 : Hid (Below w.heap.size w w2) := Lib.hid (HB1.out.trans (hb2.mono HB1.out.size))
    have hs2 : w.heap.size ≤ w2.heap.size := HB2.out.size
    clear hb2
    obtain ⟨z, hz⟩ : ∃ z, wrap64 (a2 - 1) = z := ⟨_, rfl⟩
    have hs3 : ∀ o, w.heap.size ≤ (w2.alloc o).heap.size := fun o => by rw [show (w2.alloc o).heap.size = w2.heap.size + 1 by simp]; omega
    have HBA : Hid (∀ o p, Below w.heap.size w ((w2.alloc o).alloc p)) := Lib.hid (fun o p => (HB2.out.alloc hs2 o).alloc (hs3 o) p)
    clear hs3
    have HNW : Hid (∀ o, OwnFrs ((w2.alloc o).alloc (.cells #[] 28)) (w2.heap.size + 1) (some ⟨w2.heap.size + 1, 0, none⟩) 0 0 []) := Lib.hid (fun o => by
      have := scan.ownNew (w := w2.alloc o) (base := w2.heap.size + 1) (by simp)
      rwa [show (w2.alloc o).heap.size = w2.heap.size + 1 by simp] at this)
    go_upto_region 9 with (first
      | (at_builtin; refine scan.wpList_append_frs rfl (.tmp 49) (.tmp 50) rfl (w2.heap.size + 1) rfl (HNW.out _) rfl (HF.out _ (HBA.out _ _)) HFN.out (by omega) (by simp) ?_; intro A1 c4 w4 hownX hbX; have HO4 : Hid (OwnFrs w4 (w2.heap.size + 1) A1 0 c4 x0) := Lib.hid (by simpa using hownX); have HW4 : Hid (Below w.heap.size w w4) := Lib.hid ((HBA.out _ _).trans (hbX.mono (by omega))); have hs4 : w2.heap.size + 1 ≤ w4.heap.size := Nat.le_trans (by simp) hbX.size; clear hownX hbX)
      | (at_builtin; refine scan.wpList_append_frs rfl (.tmp 51) (.tmp 52) rfl (w2.heap.size + 1) rfl HO4.out rfl (HG.out w4 HW4.out) HGN.out (by omega) hs4 ?_; intro A2 c2 w5 hownX hbX; have HW5 : Hid (Below w.heap.size w w5) := Lib.hid (HW4.out.trans (hbX.mono (by omega))); clear hownX hbX))
    go_cut [69] (fun s69 wx => s69 = .bool true ∧ Below w5.heap.size w5 wx)
    case first =>
      -- LOW BEGINS
      refine wp_region_any (by kernel_rfl) ?_
      change wpAny _ _ _ _ _ _ _ (World.drew _)
      refine wpAny_take (i := 0) (v := .int .i64 a2) rfl (by kernel_rfl) (by kernel_rfl) (by kernel_rfl) (fun _ _ _ h => h) (Or.inl ⟨by kernel_rfl, ?h0⟩) ?_
      case h0 => (intro w; go_simp)
      go_simp
      refine wpAny_take (i := 1) (v := .bool true) rfl (by kernel_rfl) (by kernel_rfl) (by kernel_rfl) (fun _ _ _ h => h) (Or.inl ⟨by kernel_rfl, ?h1⟩) ?_
      case h1 => (intro w; go_simp)
      go_simp
      refine wpAny_take (i := 2) (v := .bool true) rfl (by kernel_rfl) (by kernel_rfl) (by kernel_rfl) (fun _ _ _ h => h) (Or.inl ⟨by kernel_rfl, ?h2⟩) ?_
      case h2 => (intro w; go_simp)
      go_simp
      refine wpAny_take (i := 3) (v := undef) rfl (by kernel_rfl) (by kernel_rfl) (by kernel_rfl) (fun _ _ _ h => h) (Or.inr ⟨by kernel_rfl, rfl⟩) ?_
      go_simp
      refine wpAny_take (i := 4) (v := undef) rfl (by kernel_rfl) (by kernel_rfl) (by kernel_rfl) (fun _ _ _ h => h) (Or.inr ⟨by kernel_rfl, rfl⟩) ?_
      go_simp
      refine wpAny_take (i := 5) (v := undef) rfl (by kernel_rfl) (by kernel_rfl) (by kernel_rfl) (fun _ _ _ h => h) (Or.inr ⟨by kernel_rfl, rfl⟩) ?_
      go_simp
      refine wpAny_take (i := 6) (v := undef) rfl (by kernel_rfl) (by kernel_rfl) (by kernel_rfl) (fun _ _ _ h => h) (Or.inr ⟨by kernel_rfl, rfl⟩) ?_
      go_simp
      refine wpAny_take (i := 7) (v := undef) rfl (by kernel_rfl) (by kernel_rfl) (by kernel_rfl) (fun _ _ _ h => h) (Or.inr ⟨by kernel_rfl, rfl⟩) ?_
      go_simp
      refine wpAny_take (i := 8) (v := undef) rfl (by kernel_rfl) (by kernel_rfl) (by kernel_rfl) (fun _ _ _ h => h) (Or.inr ⟨by kernel_rfl, rfl⟩) ?_
      go_simp
      refine wpAny_take (i := 9) (v := undef) rfl (by kernel_rfl) (by kernel_rfl) (by kernel_rfl) (fun _ _ _ h => h) (Or.inr ⟨by kernel_rfl, rfl⟩) ?_
      go_simp
      refine wpAny_take (i := 10) (v := undef) rfl (by kernel_rfl) (by kernel_rfl) (by kernel_rfl) (fun _ _ _ h => h) (Or.inr ⟨by kernel_rfl, rfl⟩) ?_
      go_simp
      refine wpAny_take (i := 11) (v := undef) rfl (by kernel_rfl) (by kernel_rfl) (by kernel_rfl) (fun _ _ _ h => h) (Or.inr ⟨by kernel_rfl, rfl⟩) ?_
      go_simp
      refine wpAny_take (i := 12) (v := undef) rfl (by kernel_rfl) (by kernel_rfl) (by kernel_rfl) (fun _ _ _ h => h) (Or.inr ⟨by kernel_rfl, rfl⟩) ?_
      go_simp
      refine wpAny_take (i := 13) (v := undef) rfl (by kernel_rfl) (by kernel_rfl) (by kernel_rfl) (fun _ _ _ h => h) (Or.inr ⟨by kernel_rfl, rfl⟩) ?_
      go_simp
      refine wpAny_take (i := 14) (v := undef) rfl (by kernel_rfl) (by kernel_rfl) (by kernel_rfl) (fun _ _ _ h => h) (Or.inr ⟨by kernel_rfl, rfl⟩) ?_
      go_simp
      refine wpAny_take (i := 15) (v := .bool true) rfl (by kernel_rfl) (by kernel_rfl) (by kernel_rfl) (fun _ _ _ h => h) (Or.inl ⟨by kernel_rfl, ?h15⟩) ?_
      case h15 => (intro w; go_simp)
      go_simp
      refine wpAny_done (by kernel_rfl) ?_ _
      go_wp2_with fail
      go_meet
      exact ⟨rfl, (Below.refl _ _).drew⟩
      -- LOW ENDS
    case rest =>
      obtain ⟨rfl, hbc⟩ := hcut
      have HBC : Hid (Below w.heap.size w wc) := Lib.hid (HW5.out.trans (hbc.mono HW5.out.size))
      clear hbc
      go_wp2
      go_ret
      exact ⟨rfl, HBC.out⟩
  have ha1 : 1 ≤ a2 := by omega
  clear ha
  obtain ⟨N0, HN0⟩ : ∃ N, Hid (72 * n0 = N) := ⟨_, Lib.hid rfl⟩
  obtain ⟨N1, HN1⟩ : ∃ N, Hid (72 * n1 = N) := ⟨_, Lib.hid rfl⟩
  have hN0 : N0 ≤ 1440 := by have := HN0.out; omega
  have hN1 : N1 ≤ 1440 := by have := HN1.out; omega
  go_enter Try.func6, Try.ntmps6
  go_wp2_with ((with_reducible refine (scan.awake_any _).mono ?_); rintro e w1 ⟨rfl, hb1⟩)
  have HB1 := Lib.hid hb1
  clear hb1
  refine Calls.mono (scan.row_of w1 (HF.out w1 HB1.out) HB1.out.size HFN.out (by omega) HQ.out) ?_
  rintro e w2 ⟨rfl, hb2⟩
  have HB2 : Hid (Below w.heap.size w w2) := Lib.hid (HB1.out.trans (hb2.mono HB1.out.size))
  have hs2 : w.heap.size ≤ w2.heap.size := HB2.out.size
  clear hb2
  go_upto_if 42 with fail
  go_cut [9] (fun s9 wx => ∃ E L k b0 b1 b2 b3 b4 b5 : Int, s9 = .pointer (some ⟨w2.heap.size, 0, none⟩) ∧ Hid (wx.heap[w2.heap.size]? = some (.cells #[.int .i64 E, .int .i64 L, .int .i64 k, .int .i64 b0, .int .i64 b1, .int .i64 b2, .int .i64 b3, .int .i64 b4, .int .i64 b5] 28 (0, 0))) ∧ Hid (scan.last x0 a3 = E) ∧ Hid (L + 1 = a2 + n0) ∧ 0 ≤ L ∧ L ≤ 9223372036854775806 ∧ Hid (Below w.heap.size w wx))
  case first =>
    have HBA := Lib.hid (fun o => HB2.out.alloc hs2 o)
    rcases n0 with _ | n0
    · have hx0 : x0 = [] := List.eq_nil_of_length_eq_zero HFN.out
      go_wp2_with fail
      go_meet
      exact ⟨a3, a2 - 1, 0, 0, 0, 0, 0, 0, 0, rfl, Lib.hid (heap_alloc_new w2 _), Lib.hid (by rw [hx0]; rfl), Lib.hid (by omega), by omega, by omega, Lib.hid (HBA.out _)⟩
    · obtain ⟨b, off, e, l, kd, b0, b1, b2, b3, b4, b5, rfl, hb, HE, y0, y1, y2, y3, y4, y5, y6, y7, y8, HFF⟩ := (HF.out w2 HB2.out).at_ (j := n0) (by rw [HFN.out]; omega)
      have hbl : b < w2.heap.size := by omega
      have hlast := scan.row_last HFN.out HE.out HQ.out
      simp only at hlast
      have HLA := Lib.hid hlast
      have hl1 := hlast.2.2.1
      have hl2 := hlast.2.2.2
      clear hlast
      have ek : ((n0 + 1 : Nat) : Int) = (n0 : Int) + 1 := by omega
      rw [ek]
      clear ek
      go_wp2_with fail
      go_meet
      exact ⟨e, l, kd, b0, b1, b2, b3, b4, b5, rfl, Lib.hid (heap_alloc_new w2 _), Lib.hid HLA.out.2.1.symm, Lib.hid (by have := HLA.out.1; omega), by omega, by omega, Lib.hid (HBA.out _)⟩
  case rest =>
    obtain ⟨E, L, k, b0, b1, b2, b3, b4, b5, rfl, HGC, HE, HL, hL0, hL1, HBc⟩ := hcut
    obtain ⟨wq, hwq⟩ : ∃ x, x = wc := ⟨_, rfl⟩
    subst hwq
    have HGB : Hid (∀ W, Below wq.heap.size wq W → W.heap[w2.heap.size]? = some (.cells #[.int .i64 E, .int .i64 L, .int .i64 k, .int .i64 b0, .int .i64 b1, .int .i64 b2, .int .i64 b3, .int .i64 b4, .int .i64 b5] 28 (0, 0))) := Lib.hid (fun W hb => (hb.block _ (cell_block (block_cell HGC.out 0 _ rfl).1)).trans HGC.out)
    have hsc : w.heap.size ≤ wq.heap.size := HBc.out.size
    obtain ⟨r, HRB⟩ : ∃ r, Hid (scan.row (x0 ++ x1) a2 a3 = r) := ⟨_, Lib.hid rfl⟩
    have HRM : Hid (scan.row x1 (L + 1) E = r) := Lib.hid (by
      have := HRB.out
      rw [scan.row_append, HQ.out, HFN.out, HE.out, ← HL.out] at this
      simpa using this)
    have HBN : Hid ((x0 ++ x1).length = n0 + n1) := Lib.hid (by rw [List.length_append, HFN.out, HGN.out])
    go_upto_region 9 with (first
      | (at_builtin; refine scan.wpList_append_frs rfl (.tmp 49) (.tmp 50) rfl wq.heap.size rfl (scan.ownNew (Nat.le_refl _)) rfl (HF.out _ (HBc.out.alloc hsc _)) HFN.out (by omega) (by simp) ?_; intro A1 c4 w4 hownX hbX; have HO4 : Hid (OwnFrs w4 wq.heap.size A1 n0 c4 x0) := Lib.hid (by simpa using hownX); have HW4 : Hid (Below wq.heap.size wq w4) := Lib.hid (((Below.refl _ _).alloc (Nat.le_refl _) _).trans hbX); have hs4 : wq.heap.size ≤ w4.heap.size := HW4.out.size; clear hownX hbX)
      | (at_builtin; refine scan.wpList_append_frs rfl (.tmp 51) (.tmp 52) rfl wq.heap.size rfl HO4.out rfl (HG.out w4 (HBc.out.trans (HW4.out.mono hsc))) HGN.out (by omega) hs4 ?_; intro A2 c2 w5 hownX hbX; have HO5 : Hid (OwnFrs w5 wq.heap.size A2 (n0 + n1) c2 (x0 ++ x1)) := Lib.hid hownX; have HW5 : Hid (Below wq.heap.size wq w5) := Lib.hid (HW4.out.trans hbX); clear hownX hbX))
    have HA5 : Hid (Below w.heap.size w w5) := Lib.hid (HBc.out.trans (HW5.out.mono hsc))
    have HBOTH : Hid (∀ W, Below w5.heap.size w5 W → Frs W w5.heap.size A2 (x0 ++ x1)) := Lib.hid (fun W hb => (HO5.out.frs).below hb)
    have hnn : n0 + n1 ≤ 100000 := by omega
    have hnk : n1 ≤ 100000 := by omega
    have hwL : IntKind.i64.wrap (L + 1) = L + 1 := IntWalk.i64_in _ (by omega)
    go_cut [69] (fun s69 wx => s69 = .bool false ∧ Below w5.heap.size w5 wx)
    case first =>
      -- R9 BEGINS
      refine wp_region_any (by kernel_rfl) ?_
      change wpAny _ _ _ _ _ _ _ (World.drew _)
      obtain ⟨W6, hW6⟩ : ∃ x, x = w5.drew := ⟨_, rfl⟩
      rw [← hW6]
      have HR6 : Hid (Below w5.heap.size w5 W6) := Lib.hid (by rw [hW6]; exact (Below.refl _ _).drew)
      clear hW6
      refine wpAny_take (i := 0) (v := .int .i64 a2) rfl (by kernel_rfl) (by kernel_rfl) (by kernel_rfl) (fun _ _ _ h => h) (Or.inl ⟨by kernel_rfl, ?h0⟩) ?_
      case h0 => (intro w; go_simp)
      go_simp
      refine wpAny_take (i := 1) (v := .bool false) rfl (by kernel_rfl) (by kernel_rfl) (by kernel_rfl) (fun _ _ _ h => h) (Or.inl ⟨by kernel_rfl, ?h1⟩) ?_
      case h1 => (intro w; go_simp)
      go_simp
      refine wpAny_take (i := 2) (v := .bool false) rfl (by kernel_rfl) (by kernel_rfl) (by kernel_rfl) (fun _ _ _ h => h) (Or.inl ⟨by kernel_rfl, ?h2⟩) ?_
      case h2 => (intro w; go_simp)
      go_simp
      refine wpAny_take (i := 3) (v := .slice A2 (n0 + n1) c2) rfl (by kernel_rfl) (by kernel_rfl) (by kernel_rfl) (fun _ _ _ h => h) (Or.inl ⟨by kernel_rfl, ?h3⟩) ?_
      case h3 => (intro w; go_simp)
      go_simp
      refine wpAny_take (i := 4) (v := .int .i64 a2) rfl (by kernel_rfl) (by kernel_rfl) (by kernel_rfl) (fun _ _ _ h => h) (Or.inl ⟨by kernel_rfl, ?h4⟩) ?_
      case h4 => (intro w; go_simp)
      go_simp
      refine wpAny_take (i := 5) (v := .int .i64 a3) rfl (by kernel_rfl) (by kernel_rfl) (by kernel_rfl) (fun _ _ _ h => h) (Or.inl ⟨by kernel_rfl, ?h5⟩) ?_
      case h5 => (intro w; go_simp)
      go_simp
      refine wpAny_take (i := 7) (v := .slice p1 n1 c1) rfl (by kernel_rfl) (by kernel_rfl) (by kernel_rfl) (fun _ _ _ h => h) (Or.inl ⟨by kernel_rfl, ?h7⟩) ?_
      case h7 => (intro w; go_simp)
      go_simp
      refine wpAny_take (i := 8) (v := .pointer (some ⟨w2.heap.size, 1, none⟩)) rfl (by kernel_rfl) (by kernel_rfl) (by kernel_rfl) (fun _ _ _ h => h) (Or.inl ⟨by kernel_rfl, ?h8⟩) ?_
      case h8 => (intro w; go_simp)
      go_simp
      refine wpAny_take (i := 11) (v := .pointer (some ⟨w2.heap.size, 0, none⟩)) rfl (by kernel_rfl) (by kernel_rfl) (by kernel_rfl) (fun _ _ _ h => h) (Or.inl ⟨by kernel_rfl, ?h11⟩) ?_
      case h11 => (intro w; go_simp)
      go_simp
      refine wpAny_ready (rs := [6, 9, 12]) (by kernel_rfl) (by simp) ?_
      refine AllReady.cons rfl (fun K hK => ?_) (AllReady.cons rfl (fun K hK => ?_) (AllReady.cons rfl (fun K hK => ?_) AllReady.nil))
      · go_simp
        go_wp2_with (refine Calls.mono (scan.row_of W6 (HBOTH.out W6 HR6.out) HR6.out.size HBN.out hnn HRB.out) ?_; rintro e5 W7 ⟨rfl, hb5⟩)
        have HR7 : Hid (Below w5.heap.size w5 W7) := Lib.hid (HR6.out.trans (hb5.mono HR6.out.size))
        clear hb5
        refine wpAny_ready (rs := [9, 12]) (by kernel_rfl) (by simp) ?_
        refine AllReady.cons rfl (fun K hK => ?_) (AllReady.cons rfl (fun K hK => ?_) AllReady.nil)
        · have y1 : W7.cell? ⟨w2.heap.size, 1, none⟩ = some (.int .i64 L) := (block_cell (HGB.out W7 (HW5.out.trans (HR7.out.mono HW5.out.size))) 1 _ rfl).1
          go_simp
          refine hK _ _ ?_
          clear hK K
          clear y1
          refine wpAny_take (i := 10) (v := .int .i64 (L + 1)) rfl (by kernel_rfl) (by kernel_rfl) (by kernel_rfl) (fun _ _ _ h => h) (Or.inl ⟨by kernel_rfl, ?h10⟩) ?_
          case h10 => (intro w; go_simp)
          go_simp
          refine wpAny_ready (rs := [12]) (by kernel_rfl) (by simp) ?_
          refine AllReady.cons rfl (fun K hK => ?_) AllReady.nil
          have y0 : W7.cell? ⟨w2.heap.size, 0, none⟩ = some (.int .i64 E) := (block_cell (HGB.out W7 (HW5.out.trans (HR7.out.mono HW5.out.size))) 0 _ rfl).1
          go_simp
          refine hK _ _ ?_
          clear hK K
          clear y0
          refine wpAny_ready (rs := [13]) (by kernel_rfl) (by simp) ?_
          refine AllReady.cons rfl (fun K hK => ?_) AllReady.nil
          go_simp
          go_wp2_with (refine Calls.mono (scan.row_of W7 (HG.out W7 (HA5.out.trans (HR7.out.mono HA5.out.size))) ((HA5.out.trans (HR7.out.mono HA5.out.size)).size) HGN.out hnk HRM.out) ?_; rintro e5 W8 ⟨rfl, hb5⟩)
          have HR8 : Hid (Below w5.heap.size w5 W8) := Lib.hid (HR7.out.trans (hb5.mono HR7.out.size))
          clear hb5
          refine wpAny_take (i := 14) (v := .bool false) rfl (by kernel_rfl) (by kernel_rfl) (by kernel_rfl) (fun _ _ _ h => h) (Or.inl ⟨by kernel_rfl, ?h14⟩) ?_
          case h14 => (intro w; go_simp)
          go_simp
          refine wpAny_take (i := 15) (v := .bool false) rfl (by kernel_rfl) (by kernel_rfl) (by kernel_rfl) (fun _ _ _ h => h) (Or.inl ⟨by kernel_rfl, ?h15⟩) ?_
          case h15 => (intro w; go_simp)
          go_simp
          refine wpAny_done (by kernel_rfl) ?_ _
          go_wp2_with fail
          go_meet
          exact ⟨rfl, HR8.out⟩
        · have y0 : W7.cell? ⟨w2.heap.size, 0, none⟩ = some (.int .i64 E) := (block_cell (HGB.out W7 (HW5.out.trans (HR7.out.mono HW5.out.size))) 0 _ rfl).1
          go_simp
          refine hK _ _ ?_
          clear hK K
          clear y0
          refine wpAny_ready (rs := [9]) (by kernel_rfl) (by simp) ?_
          refine AllReady.cons rfl (fun K hK => ?_) AllReady.nil
          have y1 : W7.cell? ⟨w2.heap.size, 1, none⟩ = some (.int .i64 L) := (block_cell (HGB.out W7 (HW5.out.trans (HR7.out.mono HW5.out.size))) 1 _ rfl).1
          go_simp
          refine hK _ _ ?_
          clear hK K
          clear y1
          refine wpAny_take (i := 10) (v := .int .i64 (L + 1)) rfl (by kernel_rfl) (by kernel_rfl) (by kernel_rfl) (fun _ _ _ h => h) (Or.inl ⟨by kernel_rfl, ?h10⟩) ?_
          case h10 => (intro w; go_simp)
          go_simp
          refine wpAny_ready (rs := [13]) (by kernel_rfl) (by simp) ?_
          refine AllReady.cons rfl (fun K hK => ?_) AllReady.nil
          go_simp
          go_wp2_with (refine Calls.mono (scan.row_of W7 (HG.out W7 (HA5.out.trans (HR7.out.mono HA5.out.size))) ((HA5.out.trans (HR7.out.mono HA5.out.size)).size) HGN.out hnk HRM.out) ?_; rintro e5 W8 ⟨rfl, hb5⟩)
          have HR8 : Hid (Below w5.heap.size w5 W8) := Lib.hid (HR7.out.trans (hb5.mono HR7.out.size))
          clear hb5
          refine wpAny_take (i := 14) (v := .bool false) rfl (by kernel_rfl) (by kernel_rfl) (by kernel_rfl) (fun _ _ _ h => h) (Or.inl ⟨by kernel_rfl, ?h14⟩) ?_
          case h14 => (intro w; go_simp)
          go_simp
          refine wpAny_take (i := 15) (v := .bool false) rfl (by kernel_rfl) (by kernel_rfl) (by kernel_rfl) (fun _ _ _ h => h) (Or.inl ⟨by kernel_rfl, ?h15⟩) ?_
          case h15 => (intro w; go_simp)
          go_simp
          refine wpAny_done (by kernel_rfl) ?_ _
          go_wp2_with fail
          go_meet
          exact ⟨rfl, HR8.out⟩
      · have y1 : W6.cell? ⟨w2.heap.size, 1, none⟩ = some (.int .i64 L) := (block_cell (HGB.out W6 (HW5.out.trans (HR6.out.mono HW5.out.size))) 1 _ rfl).1
        go_simp
        refine hK _ _ ?_
        clear hK K
        clear y1
        refine wpAny_take (i := 10) (v := .int .i64 (L + 1)) rfl (by kernel_rfl) (by kernel_rfl) (by kernel_rfl) (fun _ _ _ h => h) (Or.inl ⟨by kernel_rfl, ?h10⟩) ?_
        case h10 => (intro w; go_simp)
        go_simp
        refine wpAny_ready (rs := [6, 12]) (by kernel_rfl) (by simp) ?_
        refine AllReady.cons rfl (fun K hK => ?_) (AllReady.cons rfl (fun K hK => ?_) AllReady.nil)
        · go_simp
          go_wp2_with (refine Calls.mono (scan.row_of W6 (HBOTH.out W6 HR6.out) HR6.out.size HBN.out hnn HRB.out) ?_; rintro e5 W7 ⟨rfl, hb5⟩)
          have HR7 : Hid (Below w5.heap.size w5 W7) := Lib.hid (HR6.out.trans (hb5.mono HR6.out.size))
          clear hb5
          refine wpAny_ready (rs := [12]) (by kernel_rfl) (by simp) ?_
          refine AllReady.cons rfl (fun K hK => ?_) AllReady.nil
          have y0 : W7.cell? ⟨w2.heap.size, 0, none⟩ = some (.int .i64 E) := (block_cell (HGB.out W7 (HW5.out.trans (HR7.out.mono HW5.out.size))) 0 _ rfl).1
          go_simp
          refine hK _ _ ?_
          clear hK K
          clear y0
          refine wpAny_ready (rs := [13]) (by kernel_rfl) (by simp) ?_
          refine AllReady.cons rfl (fun K hK => ?_) AllReady.nil
          go_simp
          go_wp2_with (refine Calls.mono (scan.row_of W7 (HG.out W7 (HA5.out.trans (HR7.out.mono HA5.out.size))) ((HA5.out.trans (HR7.out.mono HA5.out.size)).size) HGN.out hnk HRM.out) ?_; rintro e5 W8 ⟨rfl, hb5⟩)
          have HR8 : Hid (Below w5.heap.size w5 W8) := Lib.hid (HR7.out.trans (hb5.mono HR7.out.size))
          clear hb5
          refine wpAny_take (i := 14) (v := .bool false) rfl (by kernel_rfl) (by kernel_rfl) (by kernel_rfl) (fun _ _ _ h => h) (Or.inl ⟨by kernel_rfl, ?h14⟩) ?_
          case h14 => (intro w; go_simp)
          go_simp
          refine wpAny_take (i := 15) (v := .bool false) rfl (by kernel_rfl) (by kernel_rfl) (by kernel_rfl) (fun _ _ _ h => h) (Or.inl ⟨by kernel_rfl, ?h15⟩) ?_
          case h15 => (intro w; go_simp)
          go_simp
          refine wpAny_done (by kernel_rfl) ?_ _
          go_wp2_with fail
          go_meet
          exact ⟨rfl, HR8.out⟩
        · have y0 : W6.cell? ⟨w2.heap.size, 0, none⟩ = some (.int .i64 E) := (block_cell (HGB.out W6 (HW5.out.trans (HR6.out.mono HW5.out.size))) 0 _ rfl).1
          go_simp
          refine hK _ _ ?_
          clear hK K
          clear y0
          refine wpAny_ready (rs := [6]) (by kernel_rfl) (by simp) ?_
          refine AllReady.cons rfl (fun K hK => ?_) AllReady.nil
          go_simp
          go_wp2_with (refine Calls.mono (scan.row_of W6 (HBOTH.out W6 HR6.out) HR6.out.size HBN.out hnn HRB.out) ?_; rintro e5 W7 ⟨rfl, hb5⟩)
          have HR7 : Hid (Below w5.heap.size w5 W7) := Lib.hid (HR6.out.trans (hb5.mono HR6.out.size))
          clear hb5
          refine wpAny_ready (rs := [13]) (by kernel_rfl) (by simp) ?_
          refine AllReady.cons rfl (fun K hK => ?_) AllReady.nil
          go_simp
          go_wp2_with (refine Calls.mono (scan.row_of W7 (HG.out W7 (HA5.out.trans (HR7.out.mono HA5.out.size))) ((HA5.out.trans (HR7.out.mono HA5.out.size)).size) HGN.out hnk HRM.out) ?_; rintro e5 W8 ⟨rfl, hb5⟩)
          have HR8 : Hid (Below w5.heap.size w5 W8) := Lib.hid (HR7.out.trans (hb5.mono HR7.out.size))
          clear hb5
          refine wpAny_take (i := 14) (v := .bool false) rfl (by kernel_rfl) (by kernel_rfl) (by kernel_rfl) (fun _ _ _ h => h) (Or.inl ⟨by kernel_rfl, ?h14⟩) ?_
          case h14 => (intro w; go_simp)
          go_simp
          refine wpAny_take (i := 15) (v := .bool false) rfl (by kernel_rfl) (by kernel_rfl) (by kernel_rfl) (fun _ _ _ h => h) (Or.inl ⟨by kernel_rfl, ?h15⟩) ?_
          case h15 => (intro w; go_simp)
          go_simp
          refine wpAny_done (by kernel_rfl) ?_ _
          go_wp2_with fail
          go_meet
          exact ⟨rfl, HR8.out⟩
      · have y0 : W6.cell? ⟨w2.heap.size, 0, none⟩ = some (.int .i64 E) := (block_cell (HGB.out W6 (HW5.out.trans (HR6.out.mono HW5.out.size))) 0 _ rfl).1
        go_simp
        refine hK _ _ ?_
        clear hK K
        clear y0
        refine wpAny_ready (rs := [6, 9]) (by kernel_rfl) (by simp) ?_
        refine AllReady.cons rfl (fun K hK => ?_) (AllReady.cons rfl (fun K hK => ?_) AllReady.nil)
        · go_simp
          go_wp2_with (refine Calls.mono (scan.row_of W6 (HBOTH.out W6 HR6.out) HR6.out.size HBN.out hnn HRB.out) ?_; rintro e5 W7 ⟨rfl, hb5⟩)
          have HR7 : Hid (Below w5.heap.size w5 W7) := Lib.hid (HR6.out.trans (hb5.mono HR6.out.size))
          clear hb5
          refine wpAny_ready (rs := [9]) (by kernel_rfl) (by simp) ?_
          refine AllReady.cons rfl (fun K hK => ?_) AllReady.nil
          have y1 : W7.cell? ⟨w2.heap.size, 1, none⟩ = some (.int .i64 L) := (block_cell (HGB.out W7 (HW5.out.trans (HR7.out.mono HW5.out.size))) 1 _ rfl).1
          go_simp
          refine hK _ _ ?_
          clear hK K
          clear y1
          refine wpAny_take (i := 10) (v := .int .i64 (L + 1)) rfl (by kernel_rfl) (by kernel_rfl) (by kernel_rfl) (fun _ _ _ h => h) (Or.inl ⟨by kernel_rfl, ?h10⟩) ?_
          case h10 => (intro w; go_simp)
          go_simp
          refine wpAny_ready (rs := [13]) (by kernel_rfl) (by simp) ?_
          refine AllReady.cons rfl (fun K hK => ?_) AllReady.nil
          go_simp
          go_wp2_with (refine Calls.mono (scan.row_of W7 (HG.out W7 (HA5.out.trans (HR7.out.mono HA5.out.size))) ((HA5.out.trans (HR7.out.mono HA5.out.size)).size) HGN.out hnk HRM.out) ?_; rintro e5 W8 ⟨rfl, hb5⟩)
          have HR8 : Hid (Below w5.heap.size w5 W8) := Lib.hid (HR7.out.trans (hb5.mono HR7.out.size))
          clear hb5
          refine wpAny_take (i := 14) (v := .bool false) rfl (by kernel_rfl) (by kernel_rfl) (by kernel_rfl) (fun _ _ _ h => h) (Or.inl ⟨by kernel_rfl, ?h14⟩) ?_
          case h14 => (intro w; go_simp)
          go_simp
          refine wpAny_take (i := 15) (v := .bool false) rfl (by kernel_rfl) (by kernel_rfl) (by kernel_rfl) (fun _ _ _ h => h) (Or.inl ⟨by kernel_rfl, ?h15⟩) ?_
          case h15 => (intro w; go_simp)
          go_simp
          refine wpAny_done (by kernel_rfl) ?_ _
          go_wp2_with fail
          go_meet
          exact ⟨rfl, HR8.out⟩
        · have y1 : W6.cell? ⟨w2.heap.size, 1, none⟩ = some (.int .i64 L) := (block_cell (HGB.out W6 (HW5.out.trans (HR6.out.mono HW5.out.size))) 1 _ rfl).1
          go_simp
          refine hK _ _ ?_
          clear hK K
          clear y1
          refine wpAny_take (i := 10) (v := .int .i64 (L + 1)) rfl (by kernel_rfl) (by kernel_rfl) (by kernel_rfl) (fun _ _ _ h => h) (Or.inl ⟨by kernel_rfl, ?h10⟩) ?_
          case h10 => (intro w; go_simp)
          go_simp
          refine wpAny_ready (rs := [6]) (by kernel_rfl) (by simp) ?_
          refine AllReady.cons rfl (fun K hK => ?_) AllReady.nil
          go_simp
          go_wp2_with (refine Calls.mono (scan.row_of W6 (HBOTH.out W6 HR6.out) HR6.out.size HBN.out hnn HRB.out) ?_; rintro e5 W7 ⟨rfl, hb5⟩)
          have HR7 : Hid (Below w5.heap.size w5 W7) := Lib.hid (HR6.out.trans (hb5.mono HR6.out.size))
          clear hb5
          refine wpAny_ready (rs := [13]) (by kernel_rfl) (by simp) ?_
          refine AllReady.cons rfl (fun K hK => ?_) AllReady.nil
          go_simp
          go_wp2_with (refine Calls.mono (scan.row_of W7 (HG.out W7 (HA5.out.trans (HR7.out.mono HA5.out.size))) ((HA5.out.trans (HR7.out.mono HA5.out.size)).size) HGN.out hnk HRM.out) ?_; rintro e5 W8 ⟨rfl, hb5⟩)
          have HR8 : Hid (Below w5.heap.size w5 W8) := Lib.hid (HR7.out.trans (hb5.mono HR7.out.size))
          clear hb5
          refine wpAny_take (i := 14) (v := .bool false) rfl (by kernel_rfl) (by kernel_rfl) (by kernel_rfl) (fun _ _ _ h => h) (Or.inl ⟨by kernel_rfl, ?h14⟩) ?_
          case h14 => (intro w; go_simp)
          go_simp
          refine wpAny_take (i := 15) (v := .bool false) rfl (by kernel_rfl) (by kernel_rfl) (by kernel_rfl) (fun _ _ _ h => h) (Or.inl ⟨by kernel_rfl, ?h15⟩) ?_
          case h15 => (intro w; go_simp)
          go_simp
          refine wpAny_done (by kernel_rfl) ?_ _
          go_wp2_with fail
          go_meet
          exact ⟨rfl, HR8.out⟩
      -- R9 ENDS
    case rest =>
      obtain ⟨rfl, hbc⟩ := hcut
      have HBC : Hid (Below w.heap.size w wc) := Lib.hid (HA5.out.trans (hbc.mono HA5.out.size))
      have HQC : Hid (Below wq.heap.size wq wc) := Lib.hid (HW5.out.trans (hbc.mono HW5.out.size))
      clear hbc hwL HBOTH HRB HBN HO4 HO5
      go_wp2_with fail
      refine Calls.mono (scan.put_of wc (HF.out wc HBC.out) HBC.out.size HFN.out (by omega) (scan.row_right HQ.out) HN0.out) ?_
      rintro e w6 ⟨A6, c6, rfl, hown6, hb6⟩
      have HB6 : Hid (Below w.heap.size w w6) := Lib.hid (HBC.out.trans (hb6.mono HBC.out.size))
      have HQ6 : Hid (Below wq.heap.size wq w6) := Lib.hid (HQC.out.trans (hb6.mono HQC.out.size))
      have HX6 : Hid (∀ W, Below w6.heap.size w6 W → Bys W w6.heap.size A6 (scan.put x0)) := Lib.hid (fun W hb => hown6.bys.below hb)
      have HL6 : Hid ((scan.put x0).length = N0) := Lib.hid (by rw [scan.put_len, HFN.out, HN0.out])
      clear hb6 hown6
      obtain ⟨t, HT⟩ : ∃ t, Hid (scan.allRight x1 = t) := ⟨_, Lib.hid rfl⟩
      rcases t with _ | _
      · go_wp2_with fail
        refine Calls.mono (scan.put_no_of w6 (HG.out w6 HB6.out) HB6.out.size HGN.out (by omega) HT.out) ?_
        rintro e w7 ⟨rfl, hb7⟩
        have HB7 : Hid (Below w.heap.size w w7) := Lib.hid (HB6.out.trans (hb7.mono HB6.out.size))
        clear hb7
        go_wp2
        go_ret
        exact ⟨rfl, HB7.out⟩
      · go_wp2_with fail
        refine Calls.mono (scan.put_of w6 (HG.out w6 HB6.out) HB6.out.size HGN.out (by omega) HT.out HN1.out) ?_
        rintro e w7 ⟨A7, c7, rfl, hown7, hb7⟩
        have HB7 : Hid (Below w.heap.size w w7) := Lib.hid (HB6.out.trans (hb7.mono HB6.out.size))
        have HQ7 : Hid (Below wq.heap.size wq w7) := Lib.hid (HQ6.out.trans (hb7.mono HQ6.out.size))
        have HX67 : Hid (∀ W, Below w7.heap.size w7 W → Bys W w6.heap.size A6 (scan.put x0)) := Lib.hid (fun W hb => HX6.out W (hb7.trans (hb.mono hb7.size)))
        have HX7 : Hid (∀ W, Below w7.heap.size w7 W → Bys W w7.heap.size A7 (scan.put x1)) := Lib.hid (fun W hb => hown7.bys.below hb)
        have HL7 : Hid ((scan.put x1).length = N1) := Lib.hid (by rw [scan.put_len, HGN.out, HN1.out])
        have HC7 := Lib.hid (scan.own_bys_cap hown7)
        clear hb7 hown7
        obtain ⟨lr, HLR⟩ : ∃ lr, Hid (scan.all (scan.put x1) (L + 1) E = lr) := ⟨_, Lib.hid rfl⟩
        obtain ⟨kr, HKR⟩ : ∃ kr, Hid (lr.length = kr) := ⟨_, Lib.hid rfl⟩
        have hkr : kr ≤ 20 := by
          have := scan.all_len (scan.put x1) (L + 1) E
          rw [HLR.out, HKR.out, HL7.out] at this
          have := HN1.out
          omega
        obtain ⟨K, HK⟩ : ∃ K, Hid (n0 + kr = K) := ⟨_, Lib.hid rfl⟩
        have hK : K ≤ 40 := by have := HK.out; omega
        have HALL : Hid (scan.all (scan.put x0 ++ scan.put x1) a2 a3 = x0 ++ lr) := Lib.hid (by
          rw [scan.all_puts x0 _ a2 a3 HFI.out HQ.out, HFN.out, HE.out, ← HL.out, HLR.out])
        have hsq7 : wq.heap.size ≤ w7.heap.size := HQ7.out.size
        go_wp2_with (first
          | (at_builtin; refine scan.wpList_append_bytes rfl (.tmp 91) (.tmp 92) rfl w7.heap.size rfl (scan.ownNewB (Nat.le_refl _)) rfl (HX67.out _ ((Below.refl _ _).alloc (Nat.le_refl _) _)) HL6.out (by omega) (by simp) ?_; intro A8 c8 w8 hownX hbX; have HO8 : Hid (OwnBys w8 w7.heap.size 5 A8 N0 c8 (scan.put x0)) := Lib.hid (by simpa using hownX); have HW8 : Hid (Below w7.heap.size w7 w8) := Lib.hid (((Below.refl _ _).alloc (Nat.le_refl _) _).trans hbX); have hs8 : w7.heap.size ≤ w8.heap.size := HW8.out.size; clear hownX hbX)
          | (at_builtin; refine scan.wpList_append_bytes rfl (.tmp 93) (.tmp 94) rfl w7.heap.size rfl HO8.out rfl (HX7.out w8 HW8.out) HL7.out (by omega) hs8 ?_; intro A9 c9 w9 hownX hbX; have HO9 : Hid (OwnBys w9 w7.heap.size 5 A9 (N0 + N1) c9 (scan.put x0 ++ scan.put x1)) := Lib.hid hownX; have HW9 : Hid (Below w7.heap.size w7 w9) := Lib.hid (HW8.out.trans hbX); have HC9 := Lib.hid (scan.own_bys_cap hownX); clear hownX hbX))
        refine Calls.mono (scan.scan_of w9 (OwnBys.bys HO9.out) (Nat.le_refl _) (by rw [List.length_append, HL6.out, HL7.out]) HC9.out.1 HC9.out.2 (by omega) HALL.out (k := K) (by rw [List.length_append, HFN.out, HKR.out, HK.out])) ?_
        rintro e w10 ⟨A10, c10, rfl, hown10, hb10⟩
        have HW10 : Hid (Below w7.heap.size w7 w10) := Lib.hid (HW9.out.trans (hb10.mono HW9.out.size))
        have HB10 : Hid (Below w.heap.size w w10) := Lib.hid (HB7.out.trans (HW10.out.mono HB7.out.size))
        have HQ10 : Hid (Below wq.heap.size wq w10) := Lib.hid (HQ7.out.trans (HW10.out.mono hsq7))
        have HO10 : Hid (∀ W, Below w10.heap.size w10 W → Frs W w10.heap.size A10 (x0 ++ lr)) := Lib.hid (fun W hb => hown10.frs.below hb)
        clear hb10 hown10
        have hgb := HGB.out w10 HQ10.out
        have y0 : w10.cell? ⟨w2.heap.size, 0, none⟩ = some (.int .i64 E) := (block_cell hgb 0 _ rfl).1
        have y1 : w10.cell? ⟨w2.heap.size, 1, none⟩ = some (.int .i64 L) := (block_cell hgb 1 _ rfl).1
        clear hgb
        go_wp2_with fail
        refine Calls.mono (scan.scan_of w10 (HX7.out w10 HW10.out) HW10.out.size HL7.out HC7.out.1 HC7.out.2 (by omega) HLR.out HKR.out) ?_
        rintro e w11 ⟨A11, c11, rfl, hown11, hb11⟩
        have HW11 : Hid (Below w10.heap.size w10 w11) := Lib.hid hb11
        have HB11 : Hid (Below w.heap.size w w11) := Lib.hid (HB10.out.trans (hb11.mono HB10.out.size))
        have hs11 : w.heap.size ≤ w11.heap.size := HB11.out.size
        have HO11 : Hid (∀ W, Below w11.heap.size w11 W → Frs W w11.heap.size A11 lr) := Lib.hid (fun W hb => hown11.frs.below hb)
        clear hb11 hown11 y0 y1
        go_wp2_with (first
          | (at_builtin; refine scan.wpList_append_frs rfl (.tmp 112) (.tmp 113) rfl w11.heap.size rfl (scan.ownNew (Nat.le_refl _)) rfl (HF.out _ (HB11.out.alloc hs11 _)) HFN.out (by omega) (by simp) ?_; intro A12 c12 w12 hownX hbX; have HO12 : Hid (OwnFrs w12 w11.heap.size A12 n0 c12 x0) := Lib.hid (by simpa using hownX); have HW12 : Hid (Below w11.heap.size w11 w12) := Lib.hid (((Below.refl _ _).alloc (Nat.le_refl _) _).trans hbX); have hs12 : w11.heap.size ≤ w12.heap.size := HW12.out.size; clear hownX hbX)
          | (at_builtin; refine scan.wpList_append_frs rfl (.tmp 114) (.tmp 115) rfl w11.heap.size rfl HO12.out rfl (HO11.out w12 HW12.out) HKR.out (by omega) hs12 ?_; intro A13 c13 w13 hownX hbX; have HO13 : Hid (OwnFrs w13 w11.heap.size A13 (n0 + kr) c13 (x0 ++ lr)) := Lib.hid hownX; have HW13 : Hid (Below w11.heap.size w11 w13) := Lib.hid (HW12.out.trans hbX); clear hownX hbX))
        have HW1013 : Hid (Below w10.heap.size w10 w13) := Lib.hid (HW11.out.trans (HW13.out.mono HW11.out.size))
        refine Calls.mono (scan.same_of w13 (HO10.out w13 HW1013.out) HW1013.out.size (by rw [List.length_append, HFN.out, HKR.out, HK.out]) (by omega) (OwnFrs.frs HO13.out) (Nat.le_refl _) (by rw [List.length_append, HFN.out, HKR.out]) (by omega) (r := true) (decide_eq_true rfl)) ?_
        rintro e w14 ⟨rfl, hb14⟩
        have HB13 : Hid (Below w.heap.size w w13) := Lib.hid (HB11.out.trans (HW13.out.mono hs11))
        have HB14 : Hid (Below w.heap.size w w14) := Lib.hid (HB13.out.trans (hb14.mono HB13.out.size))
        clear hb14
        go_wp2
        go_ret
        exact ⟨rfl, HB14.out⟩

set_option maxRecDepth 100000 in
theorem lifted (os : Os) (started : os.Started) (H : Type) (enc : TypeId × Value → H) :
    ReturnsInHanded {} Try.checked os 6 .any (Rows.scanJoinsSpec.pre6 enc Try.prog Try.f6 Rows.scanJoinsRow.domain false) (Rows.scanJoinsSpec.post enc Try.prog Try.f6 false true false false) := by
  refine returnsInHanded_of_change (C := Try.checked) own started (by kernel_rfl) Try.func6
    (ChangeSpec.witness6 (enc := enc) (C := Try.checked) false ⟨#[], #[.slice none 0 0, .slice none 0 0, .int .i64 0, .int .i64 0], []⟩ 8 (by kernel_rfl) (by kernel_rfl) (by kernel_rfl) (by kernel_rfl)) ?_
  intro W base args ds gs before hval0 hW hcnd _
  have hval : ∀ (j : Nat) t v, Try.f6.params[j]? = some t → args[j]? = some v → Value.okWide Try.prog W .any base t v := hval0
  have hW' := hW
  obtain ⟨p, q, hA0, hV, rfl, hfz, hnd⟩ := hW
  have hA : DataW.TrodAll enc Try.prog W 0 (fun _ => true) true Try.f6.params.toList args.toList ds p := hA0
  rw [Try.params6] at hA hval
  obtain ⟨v0, vs0, d0, ds0, p0_, q0, hargs, rfl, rfl, h0, r0⟩ := trodAll_cons hA
  obtain ⟨v1, vs1, d1, ds1, p1_, q1, rfl, rfl, rfl, h1, r1⟩ := trodAll_cons r0
  obtain ⟨v2, vs2, d2, ds2, p2_, q2, rfl, rfl, rfl, h2, r2⟩ := trodAll_cons r1
  obtain ⟨v3, vs3, d3, ds3, p3_, q3, rfl, rfl, rfl, h3, r3⟩ := trodAll_cons r2
  obtain ⟨rfl, rfl, rfl⟩ := trodAll_nil r3
  obtain rfl : args = #[v0, v1, v2, v3] := by cases args; simp_all
  obtain ⟨rfl, rfl⟩ := trodVars_none hV
  obtain ⟨p0, n0, c0, rfl⟩ := okWide_slice Try.underlying22 (hval 0 22 v0 rfl rfl)
  have k0 := h0
  have lt0 : ∀ x ∈ p0_, x.block < W.heap.size := by obtain ⟨m, hm⟩ := k0; exact DataW.trod_lt m _ _ _ hm
  obtain ⟨x0, w0⟩ := of_arg (of_slice (size := 9) of_frame Try.underlying22 (by kernel_rfl) (by decide)) k0
  obtain ⟨p1, n1, c1, rfl⟩ := okWide_slice Try.underlying22 (hval 1 22 v1 rfl rfl)
  have k1 := h1
  have lt1 : ∀ x ∈ p1_, x.block < W.heap.size := by obtain ⟨m, hm⟩ := k1; exact DataW.trod_lt m _ _ _ hm
  obtain ⟨x1, w1⟩ := of_arg (of_slice (size := 9) of_frame Try.underlying22 (by kernel_rfl) (by decide)) k1
  obtain ⟨a2, rfl, rfl, rfl, w2⟩ := open_int Try.underlying2 (hval 2 2 v2 rfl rfl) h2
  obtain ⟨a3, rfl, rfl, rfl, w3⟩ := open_int Try.underlying2 (hval 3 2 v3 rfl rfl) h3
  clear hA0 hval0
  refine (walk p0 n0 c0 x0 p1 n1 c1 x1 a2 a3 W w0 w1 w2 w3).mono fun e W' ⟨he, bel⟩ => ?_
  subst he
  exact ⟨_, rfl, _, _, _, [], _, [], hW', trodAll_mk1 (shut_bool Try.underlying4 _), (trodAll_cons_mk (Below.trod laidOut (by kernel_rfl) (of_decide_eq_true (by kernel_rfl)) k0 bel lt0) (trodAll_cons_mk (Below.trod laidOut (by kernel_rfl) (of_decide_eq_true (by kernel_rfl)) k1 bel lt1) (trodAll_cons_mk (shut_int Try.underlying2 w2) (trodAll_cons_mk (shut_int Try.underlying2 w3) trodAll_mk0)))), rfl, bel.frame _, fun h => by cases h⟩

theorem over : Rows.scanJoinsRow.holds Try.pinned (OpenSpec.ofChange Rows.scanJoinsSpec) :=
  OpenClaim.holds_of_wide 6 Try.f6 rfl rfl rfl rfl rfl rfl rfl ⟨rfl, rfl, rfl, rfl, rfl⟩ rfl rfl rfl rfl rfl (by kernel_rfl) Try.func6 (by kernel_rfl)
    (of_decide_eq_true (by kernel_rfl)) (by unfold Func.isWrapper; first | (rw [if_pos (by decide +kernel)]; kernel_rfl) | (rw [if_neg (by decide +kernel)]; exact ⟨rfl, rfl⟩))
    (fun os started H enc _ => lifted os started H enc)

theorem proved : Rows.ScanJoinsSaid := over
#print axioms proved
end Go.Proofs.Ytegbaidnkniccaa.scanJoins
