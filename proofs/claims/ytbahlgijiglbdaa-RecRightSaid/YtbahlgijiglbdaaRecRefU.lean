/-
  The contracts of the document's own answers for layer 6: Unpack.
-/
import Derived.Test.YtbahlgijiglbdaaRecRef
import Derived.Test.YtbahlgijiglbdaaRecImpl3
namespace Go.Proofs.Ytbahlgijiglbdaa.rec
open Go.RowKit Go.Proofs.Ytbahlgijiglbdaa
set_option linter.unusedVariables false
set_option linter.unusedSimpArgs false
set_option maxRecDepth 20000
set_option maxHeartbeats 1000000

theorem unp_no1 {k : Int} {b : Ns} (h : nums (rd k b) ≠ b) : unp k b = (rz, 2) := by unfold unp; rw [if_neg (fun hh => h hh.2)]
theorem unp_no2 {k : Int} {b : Ns} (h : right (rd k b) = false) : unp k b = (rz, 2) := by unfold unp; rw [if_neg (fun hh => by rw [h] at hh; cases hh.1)]
theorem unp_yes {k : Int} {b : Ns} (h : right (rd k b) = true) (h2 : nums (rd k b) = b) : unp k b = (rd k b, 0) := by unfold unp; rw [if_pos ⟨h, h2⟩]

theorem runp_1 (b0 b1 b2 b3 b4 b5 : Int) (hk : frame.inR 1) (hf : (⟨b0, b1, b2, b3, b4, b5⟩ : Ns).fine) (w : World) : Calls Try.prog 15 #[.int .i64 1, .agg #[.int .i64 b0, .int .i64 b1, .int .i64 b2, .int .i64 b3, .int .i64 b4, .int .i64 b5]] w fun e w' => e = .returned (.tuple #[.agg (rc (unp 1 ⟨b0, b1, b2, b3, b4, b5⟩).1), .bool (decide ((unp 1 ⟨b0, b1, b2, b3, b4, b5⟩).2 = 0))]) ∧ Below w.heap.size w w' := by
  obtain ⟨u, HU⟩ : ∃ u, Hid (unp 1 ⟨b0, b1, b2, b3, b4, b5⟩ = u) := ⟨_, Lib.hid rfl⟩
  rw [HU.out]
  have HRD : Hid (rd 1 ⟨b0, b1, b2, b3, b4, b5⟩ = ⟨1, b0, b1, b2, b3, b4, b5, 0, 0, 0, false, 0, 0⟩) := Lib.hid (by simp [rd, *])
  have HF := Lib.hid (rd_fine hk hf)
  rw [HRD.out] at HF
  obtain ⟨m, HM⟩ : ∃ m, Hid (right ⟨1, b0, b1, b2, b3, b4, b5, 0, 0, 0, false, 0, 0⟩ = m) := ⟨_, Lib.hid rfl⟩
  have HNF : Hid (m = m → nums (rd 1 ⟨b0, b1, b2, b3, b4, b5⟩) = ⟨b0, b1, b2, b3, b4, b5⟩) := Lib.hid (by rw [HRD.out]; rintro ⟨_⟩; simp [nums, nz, *]) 
  clear hk hf
  go_enter Try.func15, Try.ntmps15
  go_wp2
  go_loop [8] (fun i => ∃ j : Nat, 6 ≤ j ∧ j ≤ 6 ∧ i = .int .i64 (j : Int) ∧ Hid (True)) (fun i => 6 - (intOf i).toNat)
  case atStart => exact ⟨6, by omega, by omega, rfl, Lib.hid (by simp)⟩
  case round =>
    obtain ⟨j, hj1, hj2, rfl, HZ⟩ := hrel
    have hc : j = 6 := by omega
    clear hj1 hj2
    rcases hc with rfl
    · have hz := HZ.out
      (try simp at hz)
      have hn : nums (rd 1 ⟨b0, b1, b2, b3, b4, b5⟩) = ⟨b0, b1, b2, b3, b4, b5⟩ := HNF.out (by simp)
      clear hz HZ
      have HN := Lib.hid hn
      clear hn
      go_wp2_with fail
      refine Calls.mono (rright_is 1 b0 b1 b2 b3 b4 b5 0 0 0 false 0 0 HF.out HM.out _) ?_
      rintro e w1 ⟨rfl, hb⟩
      have HB : Hid (Below w.heap.size w w1) := Lib.hid (((((Below.refl _ _).alloc (Nat.le_refl _) _).alloc (by simp) _).alloc (by simp; omega) _ : Below w.heap.size w _).trans (hb.mono (by simp; omega)))
      have hx1 : w1.heap[w.heap.size + 1]? = some (.cells #[.int .i64 0, .int .i64 0, .int .i64 0, .int .i64 0, .int .i64 0, .int .i64 0, .int .i64 0, .int .i64 0, .int .i64 0, .int .i64 0, .bool false, .int .i64 0, .int .i64 0] 23 (0, 0)) := (hb.block _ (by simp)).trans ((Below.heap_alloc _ _ _ (by simp)).trans (by have := heap_alloc_new (w.alloc (.cells #[.int .i64 b0, .int .i64 b1, .int .i64 b2, .int .i64 b3, .int .i64 b4, .int .i64 b5] 24)) (.cells #[.int .i64 0, .int .i64 0, .int .i64 0, .int .i64 0, .int .i64 0, .int .i64 0, .int .i64 0, .int .i64 0, .int .i64 0, .int .i64 0, .bool false, .int .i64 0, .int .i64 0] 23); simpa using this))
      have hx2 : w1.heap[w.heap.size + 1 + 1]? = some (.cells #[.int .i64 1, .int .i64 b0, .int .i64 b1, .int .i64 b2, .int .i64 b3, .int .i64 b4, .int .i64 b5, .int .i64 0, .int .i64 0, .int .i64 0, .bool false, .int .i64 0, .int .i64 0] 23 (0, 0)) := (hb.block _ (by simp)).trans (by have := heap_alloc_new ((w.alloc (.cells #[.int .i64 b0, .int .i64 b1, .int .i64 b2, .int .i64 b3, .int .i64 b4, .int .i64 b5] 24)).alloc (.cells #[.int .i64 0, .int .i64 0, .int .i64 0, .int .i64 0, .int .i64 0, .int .i64 0, .int .i64 0, .int .i64 0, .int .i64 0, .int .i64 0, .bool false, .int .i64 0, .int .i64 0] 23)) (.cells #[.int .i64 1, .int .i64 b0, .int .i64 b1, .int .i64 b2, .int .i64 b3, .int .i64 b4, .int .i64 b5, .int .i64 0, .int .i64 0, .int .i64 0, .bool false, .int .i64 0, .int .i64 0] 23); simpa using this)
      have hwh : World.whole w1 (w.heap.size + 1) 13 23 := whole_of hx1 rfl
      obtain ⟨c0, c1, c2, c3, c4, c5, c6, c7, c8, c9, c10, c11, c12⟩ := cells13 hx2
      clear hb hx1 hx2
      rcases m with _ | _
      · have hu : u = (rz, 2) := by rw [← HU.out]; exact unp_no2 (by rw [HRD.out]; exact HM.out)
        subst hu
        clear HU
        go_wp2_with (refine wpList_store_whole 23 (.tmp 4) (.tmp 110) (w.heap.size + 1) 13 _ 23 (by rfl) (by rfl) hwh (by rfl) (by kernel_rfl) (by kernel_rfl) ?_)
        obtain ⟨v0, v1, v2, v3, v4, v5, v6, v7, v8, v9, v10, v11, v12⟩ := cells13 (setAll_self (vs := #[.int .i64 0, .int .i64 0, .int .i64 0, .int .i64 0, .int .i64 0, .int .i64 0, .int .i64 0, .int .i64 0, .int .i64 0, .int .i64 0, .bool false, .int .i64 0, .int .i64 0]) hwh rfl)
        exact bodyPost_ret (v := .tuple #[.agg #[.int .i64 0, .int .i64 0, .int .i64 0, .int .i64 0, .int .i64 0, .int .i64 0, .int .i64 0, .int .i64 0, .int .i64 0, .int .i64 0, .bool false, .int .i64 0, .int .i64 0], .bool false]) (by simp [results, Try.results15, go_sem, v0, v1, v2, v3, v4, v5, v6, v7, v8, v9, v10, v11, v12]) rfl ⟨rfl, setAll_below HB.out (by omega)⟩
      · have hu : u = (⟨1, b0, b1, b2, b3, b4, b5, 0, 0, 0, false, 0, 0⟩, 0) := by rw [← HU.out, unp_yes (by rw [HRD.out]; exact HM.out) HN.out, HRD.out]
        subst hu
        clear HU
        go_wp2_with (refine wpList_store_whole 23 (.tmp 4) (.tmp 111) (w.heap.size + 1) 13 _ 23 (by rfl) (by rfl) hwh (by rfl) (by kernel_rfl) (by kernel_rfl) ?_)
        obtain ⟨v0, v1, v2, v3, v4, v5, v6, v7, v8, v9, v10, v11, v12⟩ := cells13 (setAll_self (vs := #[.int .i64 1, .int .i64 b0, .int .i64 b1, .int .i64 b2, .int .i64 b3, .int .i64 b4, .int .i64 b5, .int .i64 0, .int .i64 0, .int .i64 0, .bool false, .int .i64 0, .int .i64 0]) hwh rfl)
        exact bodyPost_ret (v := .tuple #[.agg #[.int .i64 1, .int .i64 b0, .int .i64 b1, .int .i64 b2, .int .i64 b3, .int .i64 b4, .int .i64 b5, .int .i64 0, .int .i64 0, .int .i64 0, .bool false, .int .i64 0, .int .i64 0], .bool true]) (by simp [results, Try.results15, go_sem, v0, v1, v2, v3, v4, v5, v6, v7, v8, v9, v10, v11, v12]) rfl ⟨rfl, setAll_below HB.out (by omega)⟩

theorem runp_2 (b0 b1 b2 b3 b4 b5 : Int) (hk : frame.inR 2) (hf : (⟨b0, b1, b2, b3, b4, b5⟩ : Ns).fine) (w : World) : Calls Try.prog 15 #[.int .i64 2, .agg #[.int .i64 b0, .int .i64 b1, .int .i64 b2, .int .i64 b3, .int .i64 b4, .int .i64 b5]] w fun e w' => e = .returned (.tuple #[.agg (rc (unp 2 ⟨b0, b1, b2, b3, b4, b5⟩).1), .bool (decide ((unp 2 ⟨b0, b1, b2, b3, b4, b5⟩).2 = 0))]) ∧ Below w.heap.size w w' := by
  obtain ⟨u, HU⟩ : ∃ u, Hid (unp 2 ⟨b0, b1, b2, b3, b4, b5⟩ = u) := ⟨_, Lib.hid rfl⟩
  rw [HU.out]
  have HRD : Hid (rd 2 ⟨b0, b1, b2, b3, b4, b5⟩ = ⟨2, b0, 0, 0, 0, b1, b2, 0, 0, 0, false, 0, 0⟩) := Lib.hid (by simp [rd, *])
  have HF := Lib.hid (rd_fine hk hf)
  rw [HRD.out] at HF
  obtain ⟨m, HM⟩ : ∃ m, Hid (right ⟨2, b0, 0, 0, 0, b1, b2, 0, 0, 0, false, 0, 0⟩ = m) := ⟨_, Lib.hid rfl⟩
  have HNF : Hid (m = m ∧ b3 = 0 ∧ b4 = 0 ∧ b5 = 0 → nums (rd 2 ⟨b0, b1, b2, b3, b4, b5⟩) = ⟨b0, b1, b2, b3, b4, b5⟩) := Lib.hid (by rw [HRD.out]; rintro ⟨_, h3, h4, h5⟩; simp [nums, nz, *]) 
  clear hk hf
  go_enter Try.func15, Try.ntmps15
  go_wp2
  go_loop [8] (fun i => ∃ j : Nat, 3 ≤ j ∧ j ≤ 6 ∧ i = .int .i64 (j : Int) ∧ Hid (True ∧ (3 < j → b3 = 0) ∧ (4 < j → b4 = 0) ∧ (5 < j → b5 = 0))) (fun i => 6 - (intOf i).toNat)
  case atStart => exact ⟨3, by omega, by omega, rfl, Lib.hid (by simp)⟩
  case round =>
    obtain ⟨j, hj1, hj2, rfl, HZ⟩ := hrel
    have hc : j = 3 ∨ j = 4 ∨ j = 5 ∨ j = 6 := by omega
    clear hj1 hj2
    rcases hc with rfl | rfl | rfl | rfl
    · by_cases hb : b3 = 0
      · have hb1 : (b3 != 0) = false := by simp [hb]
        have hb2 : (b3 == 0) = true := by simp [hb]
        have HZ' : Hid (True ∧ (3 < 4 → b3 = 0) ∧ (4 < 4 → b4 = 0) ∧ (5 < 4 → b5 = 0)) := Lib.hid (by have := HZ.out; simp at this; simp; omega)
        clear hb HZ
        go_wp2
        go_round
        case rel => exact ⟨4, by omega, by omega, by go_num, HZ'⟩
        case measure => first | (simp [intOf]; done) | (simp [intOf]; omega)
      · have hu : u = (rz, 2) := by rw [← HU.out]; exact unp_no1 (by rw [HRD.out]; simp [nums, nz]; omega)
        have hb1 : (b3 != 0) = true := by simp [hb]
        have hb2 : (b3 == 0) = false := by simp [hb]
        subst hu
        clear hb HZ HU
        go_wp2
        exact bodyPost_ret (v := .tuple #[.agg #[.int .i64 0, .int .i64 0, .int .i64 0, .int .i64 0, .int .i64 0, .int .i64 0, .int .i64 0, .int .i64 0, .int .i64 0, .int .i64 0, .bool false, .int .i64 0, .int .i64 0], .bool false]) (by simp [results, Try.results15, go_sem]) rfl ⟨rfl, (((Below.refl _ _).alloc (Nat.le_refl _) _).alloc (by simp) _).alloc (by simp; omega) _⟩
    · by_cases hb : b4 = 0
      · have hb1 : (b4 != 0) = false := by simp [hb]
        have hb2 : (b4 == 0) = true := by simp [hb]
        have HZ' : Hid (True ∧ (3 < 5 → b3 = 0) ∧ (4 < 5 → b4 = 0) ∧ (5 < 5 → b5 = 0)) := Lib.hid (by have := HZ.out; simp at this; simp; omega)
        clear hb HZ
        go_wp2
        go_round
        case rel => exact ⟨5, by omega, by omega, by go_num, HZ'⟩
        case measure => first | (simp [intOf]; done) | (simp [intOf]; omega)
      · have hu : u = (rz, 2) := by rw [← HU.out]; exact unp_no1 (by rw [HRD.out]; simp [nums, nz]; omega)
        have hb1 : (b4 != 0) = true := by simp [hb]
        have hb2 : (b4 == 0) = false := by simp [hb]
        subst hu
        clear hb HZ HU
        go_wp2
        exact bodyPost_ret (v := .tuple #[.agg #[.int .i64 0, .int .i64 0, .int .i64 0, .int .i64 0, .int .i64 0, .int .i64 0, .int .i64 0, .int .i64 0, .int .i64 0, .int .i64 0, .bool false, .int .i64 0, .int .i64 0], .bool false]) (by simp [results, Try.results15, go_sem]) rfl ⟨rfl, (((Below.refl _ _).alloc (Nat.le_refl _) _).alloc (by simp) _).alloc (by simp; omega) _⟩
    · by_cases hb : b5 = 0
      · have hb1 : (b5 != 0) = false := by simp [hb]
        have hb2 : (b5 == 0) = true := by simp [hb]
        have HZ' : Hid (True ∧ (3 < 6 → b3 = 0) ∧ (4 < 6 → b4 = 0) ∧ (5 < 6 → b5 = 0)) := Lib.hid (by have := HZ.out; simp at this; simp; omega)
        clear hb HZ
        go_wp2
        go_round
        case rel => exact ⟨6, by omega, by omega, by go_num, HZ'⟩
        case measure => first | (simp [intOf]; done) | (simp [intOf]; omega)
      · have hu : u = (rz, 2) := by rw [← HU.out]; exact unp_no1 (by rw [HRD.out]; simp [nums, nz]; omega)
        have hb1 : (b5 != 0) = true := by simp [hb]
        have hb2 : (b5 == 0) = false := by simp [hb]
        subst hu
        clear hb HZ HU
        go_wp2
        exact bodyPost_ret (v := .tuple #[.agg #[.int .i64 0, .int .i64 0, .int .i64 0, .int .i64 0, .int .i64 0, .int .i64 0, .int .i64 0, .int .i64 0, .int .i64 0, .int .i64 0, .bool false, .int .i64 0, .int .i64 0], .bool false]) (by simp [results, Try.results15, go_sem]) rfl ⟨rfl, (((Below.refl _ _).alloc (Nat.le_refl _) _).alloc (by simp) _).alloc (by simp; omega) _⟩
    · have hz := HZ.out
      (try simp at hz)
      have hn : nums (rd 2 ⟨b0, b1, b2, b3, b4, b5⟩) = ⟨b0, b1, b2, b3, b4, b5⟩ := HNF.out (by simp; omega)
      clear hz HZ
      have HN := Lib.hid hn
      clear hn
      go_wp2_with fail
      refine Calls.mono (rright_is 2 b0 0 0 0 b1 b2 0 0 0 false 0 0 HF.out HM.out _) ?_
      rintro e w1 ⟨rfl, hb⟩
      have HB : Hid (Below w.heap.size w w1) := Lib.hid (((((Below.refl _ _).alloc (Nat.le_refl _) _).alloc (by simp) _).alloc (by simp; omega) _ : Below w.heap.size w _).trans (hb.mono (by simp; omega)))
      have hx1 : w1.heap[w.heap.size + 1]? = some (.cells #[.int .i64 0, .int .i64 0, .int .i64 0, .int .i64 0, .int .i64 0, .int .i64 0, .int .i64 0, .int .i64 0, .int .i64 0, .int .i64 0, .bool false, .int .i64 0, .int .i64 0] 23 (0, 0)) := (hb.block _ (by simp)).trans ((Below.heap_alloc _ _ _ (by simp)).trans (by have := heap_alloc_new (w.alloc (.cells #[.int .i64 b0, .int .i64 b1, .int .i64 b2, .int .i64 b3, .int .i64 b4, .int .i64 b5] 24)) (.cells #[.int .i64 0, .int .i64 0, .int .i64 0, .int .i64 0, .int .i64 0, .int .i64 0, .int .i64 0, .int .i64 0, .int .i64 0, .int .i64 0, .bool false, .int .i64 0, .int .i64 0] 23); simpa using this))
      have hx2 : w1.heap[w.heap.size + 1 + 1]? = some (.cells #[.int .i64 2, .int .i64 b0, .int .i64 0, .int .i64 0, .int .i64 0, .int .i64 b1, .int .i64 b2, .int .i64 0, .int .i64 0, .int .i64 0, .bool false, .int .i64 0, .int .i64 0] 23 (0, 0)) := (hb.block _ (by simp)).trans (by have := heap_alloc_new ((w.alloc (.cells #[.int .i64 b0, .int .i64 b1, .int .i64 b2, .int .i64 b3, .int .i64 b4, .int .i64 b5] 24)).alloc (.cells #[.int .i64 0, .int .i64 0, .int .i64 0, .int .i64 0, .int .i64 0, .int .i64 0, .int .i64 0, .int .i64 0, .int .i64 0, .int .i64 0, .bool false, .int .i64 0, .int .i64 0] 23)) (.cells #[.int .i64 2, .int .i64 b0, .int .i64 0, .int .i64 0, .int .i64 0, .int .i64 b1, .int .i64 b2, .int .i64 0, .int .i64 0, .int .i64 0, .bool false, .int .i64 0, .int .i64 0] 23); simpa using this)
      have hwh : World.whole w1 (w.heap.size + 1) 13 23 := whole_of hx1 rfl
      obtain ⟨c0, c1, c2, c3, c4, c5, c6, c7, c8, c9, c10, c11, c12⟩ := cells13 hx2
      clear hb hx1 hx2
      rcases m with _ | _
      · have hu : u = (rz, 2) := by rw [← HU.out]; exact unp_no2 (by rw [HRD.out]; exact HM.out)
        subst hu
        clear HU
        go_wp2_with (refine wpList_store_whole 23 (.tmp 4) (.tmp 110) (w.heap.size + 1) 13 _ 23 (by rfl) (by rfl) hwh (by rfl) (by kernel_rfl) (by kernel_rfl) ?_)
        obtain ⟨v0, v1, v2, v3, v4, v5, v6, v7, v8, v9, v10, v11, v12⟩ := cells13 (setAll_self (vs := #[.int .i64 0, .int .i64 0, .int .i64 0, .int .i64 0, .int .i64 0, .int .i64 0, .int .i64 0, .int .i64 0, .int .i64 0, .int .i64 0, .bool false, .int .i64 0, .int .i64 0]) hwh rfl)
        exact bodyPost_ret (v := .tuple #[.agg #[.int .i64 0, .int .i64 0, .int .i64 0, .int .i64 0, .int .i64 0, .int .i64 0, .int .i64 0, .int .i64 0, .int .i64 0, .int .i64 0, .bool false, .int .i64 0, .int .i64 0], .bool false]) (by simp [results, Try.results15, go_sem, v0, v1, v2, v3, v4, v5, v6, v7, v8, v9, v10, v11, v12]) rfl ⟨rfl, setAll_below HB.out (by omega)⟩
      · have hu : u = (⟨2, b0, 0, 0, 0, b1, b2, 0, 0, 0, false, 0, 0⟩, 0) := by rw [← HU.out, unp_yes (by rw [HRD.out]; exact HM.out) HN.out, HRD.out]
        subst hu
        clear HU
        go_wp2_with (refine wpList_store_whole 23 (.tmp 4) (.tmp 111) (w.heap.size + 1) 13 _ 23 (by rfl) (by rfl) hwh (by rfl) (by kernel_rfl) (by kernel_rfl) ?_)
        obtain ⟨v0, v1, v2, v3, v4, v5, v6, v7, v8, v9, v10, v11, v12⟩ := cells13 (setAll_self (vs := #[.int .i64 2, .int .i64 b0, .int .i64 0, .int .i64 0, .int .i64 0, .int .i64 b1, .int .i64 b2, .int .i64 0, .int .i64 0, .int .i64 0, .bool false, .int .i64 0, .int .i64 0]) hwh rfl)
        exact bodyPost_ret (v := .tuple #[.agg #[.int .i64 2, .int .i64 b0, .int .i64 0, .int .i64 0, .int .i64 0, .int .i64 b1, .int .i64 b2, .int .i64 0, .int .i64 0, .int .i64 0, .bool false, .int .i64 0, .int .i64 0], .bool true]) (by simp [results, Try.results15, go_sem, v0, v1, v2, v3, v4, v5, v6, v7, v8, v9, v10, v11, v12]) rfl ⟨rfl, setAll_below HB.out (by omega)⟩

theorem runp_3 (b0 b1 b2 b3 b4 b5 : Int) (hk : frame.inR 3) (hf : (⟨b0, b1, b2, b3, b4, b5⟩ : Ns).fine) (w : World) : Calls Try.prog 15 #[.int .i64 3, .agg #[.int .i64 b0, .int .i64 b1, .int .i64 b2, .int .i64 b3, .int .i64 b4, .int .i64 b5]] w fun e w' => e = .returned (.tuple #[.agg (rc (unp 3 ⟨b0, b1, b2, b3, b4, b5⟩).1), .bool (decide ((unp 3 ⟨b0, b1, b2, b3, b4, b5⟩).2 = 0))]) ∧ Below w.heap.size w w' := by
  obtain ⟨u, HU⟩ : ∃ u, Hid (unp 3 ⟨b0, b1, b2, b3, b4, b5⟩ = u) := ⟨_, Lib.hid rfl⟩
  rw [HU.out]
  have HRD : Hid (rd 3 ⟨b0, b1, b2, b3, b4, b5⟩ = ⟨3, b0, 0, 0, 0, 0, 0, 0, 0, 0, false, 0, 0⟩) := Lib.hid (by simp [rd, *])
  have HF := Lib.hid (rd_fine hk hf)
  rw [HRD.out] at HF
  obtain ⟨m, HM⟩ : ∃ m, Hid (right ⟨3, b0, 0, 0, 0, 0, 0, 0, 0, 0, false, 0, 0⟩ = m) := ⟨_, Lib.hid rfl⟩
  have HNF : Hid (m = m ∧ b1 = 0 ∧ b2 = 0 ∧ b3 = 0 ∧ b4 = 0 ∧ b5 = 0 → nums (rd 3 ⟨b0, b1, b2, b3, b4, b5⟩) = ⟨b0, b1, b2, b3, b4, b5⟩) := Lib.hid (by rw [HRD.out]; rintro ⟨_, h1, h2, h3, h4, h5⟩; simp [nums, nz, *]) 
  clear hk hf
  go_enter Try.func15, Try.ntmps15
  go_wp2
  go_loop [8] (fun i => ∃ j : Nat, 1 ≤ j ∧ j ≤ 6 ∧ i = .int .i64 (j : Int) ∧ Hid (True ∧ (1 < j → b1 = 0) ∧ (2 < j → b2 = 0) ∧ (3 < j → b3 = 0) ∧ (4 < j → b4 = 0) ∧ (5 < j → b5 = 0))) (fun i => 6 - (intOf i).toNat)
  case atStart => exact ⟨1, by omega, by omega, rfl, Lib.hid (by simp)⟩
  case round =>
    obtain ⟨j, hj1, hj2, rfl, HZ⟩ := hrel
    have hc : j = 1 ∨ j = 2 ∨ j = 3 ∨ j = 4 ∨ j = 5 ∨ j = 6 := by omega
    clear hj1 hj2
    rcases hc with rfl | rfl | rfl | rfl | rfl | rfl
    · by_cases hb : b1 = 0
      · have hb1 : (b1 != 0) = false := by simp [hb]
        have hb2 : (b1 == 0) = true := by simp [hb]
        have HZ' : Hid (True ∧ (1 < 2 → b1 = 0) ∧ (2 < 2 → b2 = 0) ∧ (3 < 2 → b3 = 0) ∧ (4 < 2 → b4 = 0) ∧ (5 < 2 → b5 = 0)) := Lib.hid (by have := HZ.out; simp at this; simp; omega)
        clear hb HZ
        go_wp2
        go_round
        case rel => exact ⟨2, by omega, by omega, by go_num, HZ'⟩
        case measure => first | (simp [intOf]; done) | (simp [intOf]; omega)
      · have hu : u = (rz, 2) := by rw [← HU.out]; exact unp_no1 (by rw [HRD.out]; simp [nums, nz]; omega)
        have hb1 : (b1 != 0) = true := by simp [hb]
        have hb2 : (b1 == 0) = false := by simp [hb]
        subst hu
        clear hb HZ HU
        go_wp2
        exact bodyPost_ret (v := .tuple #[.agg #[.int .i64 0, .int .i64 0, .int .i64 0, .int .i64 0, .int .i64 0, .int .i64 0, .int .i64 0, .int .i64 0, .int .i64 0, .int .i64 0, .bool false, .int .i64 0, .int .i64 0], .bool false]) (by simp [results, Try.results15, go_sem]) rfl ⟨rfl, (((Below.refl _ _).alloc (Nat.le_refl _) _).alloc (by simp) _).alloc (by simp; omega) _⟩
    · by_cases hb : b2 = 0
      · have hb1 : (b2 != 0) = false := by simp [hb]
        have hb2 : (b2 == 0) = true := by simp [hb]
        have HZ' : Hid (True ∧ (1 < 3 → b1 = 0) ∧ (2 < 3 → b2 = 0) ∧ (3 < 3 → b3 = 0) ∧ (4 < 3 → b4 = 0) ∧ (5 < 3 → b5 = 0)) := Lib.hid (by have := HZ.out; simp at this; simp; omega)
        clear hb HZ
        go_wp2
        go_round
        case rel => exact ⟨3, by omega, by omega, by go_num, HZ'⟩
        case measure => first | (simp [intOf]; done) | (simp [intOf]; omega)
      · have hu : u = (rz, 2) := by rw [← HU.out]; exact unp_no1 (by rw [HRD.out]; simp [nums, nz]; omega)
        have hb1 : (b2 != 0) = true := by simp [hb]
        have hb2 : (b2 == 0) = false := by simp [hb]
        subst hu
        clear hb HZ HU
        go_wp2
        exact bodyPost_ret (v := .tuple #[.agg #[.int .i64 0, .int .i64 0, .int .i64 0, .int .i64 0, .int .i64 0, .int .i64 0, .int .i64 0, .int .i64 0, .int .i64 0, .int .i64 0, .bool false, .int .i64 0, .int .i64 0], .bool false]) (by simp [results, Try.results15, go_sem]) rfl ⟨rfl, (((Below.refl _ _).alloc (Nat.le_refl _) _).alloc (by simp) _).alloc (by simp; omega) _⟩
    · by_cases hb : b3 = 0
      · have hb1 : (b3 != 0) = false := by simp [hb]
        have hb2 : (b3 == 0) = true := by simp [hb]
        have HZ' : Hid (True ∧ (1 < 4 → b1 = 0) ∧ (2 < 4 → b2 = 0) ∧ (3 < 4 → b3 = 0) ∧ (4 < 4 → b4 = 0) ∧ (5 < 4 → b5 = 0)) := Lib.hid (by have := HZ.out; simp at this; simp; omega)
        clear hb HZ
        go_wp2
        go_round
        case rel => exact ⟨4, by omega, by omega, by go_num, HZ'⟩
        case measure => first | (simp [intOf]; done) | (simp [intOf]; omega)
      · have hu : u = (rz, 2) := by rw [← HU.out]; exact unp_no1 (by rw [HRD.out]; simp [nums, nz]; omega)
        have hb1 : (b3 != 0) = true := by simp [hb]
        have hb2 : (b3 == 0) = false := by simp [hb]
        subst hu
        clear hb HZ HU
        go_wp2
        exact bodyPost_ret (v := .tuple #[.agg #[.int .i64 0, .int .i64 0, .int .i64 0, .int .i64 0, .int .i64 0, .int .i64 0, .int .i64 0, .int .i64 0, .int .i64 0, .int .i64 0, .bool false, .int .i64 0, .int .i64 0], .bool false]) (by simp [results, Try.results15, go_sem]) rfl ⟨rfl, (((Below.refl _ _).alloc (Nat.le_refl _) _).alloc (by simp) _).alloc (by simp; omega) _⟩
    · by_cases hb : b4 = 0
      · have hb1 : (b4 != 0) = false := by simp [hb]
        have hb2 : (b4 == 0) = true := by simp [hb]
        have HZ' : Hid (True ∧ (1 < 5 → b1 = 0) ∧ (2 < 5 → b2 = 0) ∧ (3 < 5 → b3 = 0) ∧ (4 < 5 → b4 = 0) ∧ (5 < 5 → b5 = 0)) := Lib.hid (by have := HZ.out; simp at this; simp; omega)
        clear hb HZ
        go_wp2
        go_round
        case rel => exact ⟨5, by omega, by omega, by go_num, HZ'⟩
        case measure => first | (simp [intOf]; done) | (simp [intOf]; omega)
      · have hu : u = (rz, 2) := by rw [← HU.out]; exact unp_no1 (by rw [HRD.out]; simp [nums, nz]; omega)
        have hb1 : (b4 != 0) = true := by simp [hb]
        have hb2 : (b4 == 0) = false := by simp [hb]
        subst hu
        clear hb HZ HU
        go_wp2
        exact bodyPost_ret (v := .tuple #[.agg #[.int .i64 0, .int .i64 0, .int .i64 0, .int .i64 0, .int .i64 0, .int .i64 0, .int .i64 0, .int .i64 0, .int .i64 0, .int .i64 0, .bool false, .int .i64 0, .int .i64 0], .bool false]) (by simp [results, Try.results15, go_sem]) rfl ⟨rfl, (((Below.refl _ _).alloc (Nat.le_refl _) _).alloc (by simp) _).alloc (by simp; omega) _⟩
    · by_cases hb : b5 = 0
      · have hb1 : (b5 != 0) = false := by simp [hb]
        have hb2 : (b5 == 0) = true := by simp [hb]
        have HZ' : Hid (True ∧ (1 < 6 → b1 = 0) ∧ (2 < 6 → b2 = 0) ∧ (3 < 6 → b3 = 0) ∧ (4 < 6 → b4 = 0) ∧ (5 < 6 → b5 = 0)) := Lib.hid (by have := HZ.out; simp at this; simp; omega)
        clear hb HZ
        go_wp2
        go_round
        case rel => exact ⟨6, by omega, by omega, by go_num, HZ'⟩
        case measure => first | (simp [intOf]; done) | (simp [intOf]; omega)
      · have hu : u = (rz, 2) := by rw [← HU.out]; exact unp_no1 (by rw [HRD.out]; simp [nums, nz]; omega)
        have hb1 : (b5 != 0) = true := by simp [hb]
        have hb2 : (b5 == 0) = false := by simp [hb]
        subst hu
        clear hb HZ HU
        go_wp2
        exact bodyPost_ret (v := .tuple #[.agg #[.int .i64 0, .int .i64 0, .int .i64 0, .int .i64 0, .int .i64 0, .int .i64 0, .int .i64 0, .int .i64 0, .int .i64 0, .int .i64 0, .bool false, .int .i64 0, .int .i64 0], .bool false]) (by simp [results, Try.results15, go_sem]) rfl ⟨rfl, (((Below.refl _ _).alloc (Nat.le_refl _) _).alloc (by simp) _).alloc (by simp; omega) _⟩
    · have hz := HZ.out
      (try simp at hz)
      have hn : nums (rd 3 ⟨b0, b1, b2, b3, b4, b5⟩) = ⟨b0, b1, b2, b3, b4, b5⟩ := HNF.out (by simp; omega)
      clear hz HZ
      have HN := Lib.hid hn
      clear hn
      go_wp2_with fail
      refine Calls.mono (rright_is 3 b0 0 0 0 0 0 0 0 0 false 0 0 HF.out HM.out _) ?_
      rintro e w1 ⟨rfl, hb⟩
      have HB : Hid (Below w.heap.size w w1) := Lib.hid (((((Below.refl _ _).alloc (Nat.le_refl _) _).alloc (by simp) _).alloc (by simp; omega) _ : Below w.heap.size w _).trans (hb.mono (by simp; omega)))
      have hx1 : w1.heap[w.heap.size + 1]? = some (.cells #[.int .i64 0, .int .i64 0, .int .i64 0, .int .i64 0, .int .i64 0, .int .i64 0, .int .i64 0, .int .i64 0, .int .i64 0, .int .i64 0, .bool false, .int .i64 0, .int .i64 0] 23 (0, 0)) := (hb.block _ (by simp)).trans ((Below.heap_alloc _ _ _ (by simp)).trans (by have := heap_alloc_new (w.alloc (.cells #[.int .i64 b0, .int .i64 b1, .int .i64 b2, .int .i64 b3, .int .i64 b4, .int .i64 b5] 24)) (.cells #[.int .i64 0, .int .i64 0, .int .i64 0, .int .i64 0, .int .i64 0, .int .i64 0, .int .i64 0, .int .i64 0, .int .i64 0, .int .i64 0, .bool false, .int .i64 0, .int .i64 0] 23); simpa using this))
      have hx2 : w1.heap[w.heap.size + 1 + 1]? = some (.cells #[.int .i64 3, .int .i64 b0, .int .i64 0, .int .i64 0, .int .i64 0, .int .i64 0, .int .i64 0, .int .i64 0, .int .i64 0, .int .i64 0, .bool false, .int .i64 0, .int .i64 0] 23 (0, 0)) := (hb.block _ (by simp)).trans (by have := heap_alloc_new ((w.alloc (.cells #[.int .i64 b0, .int .i64 b1, .int .i64 b2, .int .i64 b3, .int .i64 b4, .int .i64 b5] 24)).alloc (.cells #[.int .i64 0, .int .i64 0, .int .i64 0, .int .i64 0, .int .i64 0, .int .i64 0, .int .i64 0, .int .i64 0, .int .i64 0, .int .i64 0, .bool false, .int .i64 0, .int .i64 0] 23)) (.cells #[.int .i64 3, .int .i64 b0, .int .i64 0, .int .i64 0, .int .i64 0, .int .i64 0, .int .i64 0, .int .i64 0, .int .i64 0, .int .i64 0, .bool false, .int .i64 0, .int .i64 0] 23); simpa using this)
      have hwh : World.whole w1 (w.heap.size + 1) 13 23 := whole_of hx1 rfl
      obtain ⟨c0, c1, c2, c3, c4, c5, c6, c7, c8, c9, c10, c11, c12⟩ := cells13 hx2
      clear hb hx1 hx2
      rcases m with _ | _
      · have hu : u = (rz, 2) := by rw [← HU.out]; exact unp_no2 (by rw [HRD.out]; exact HM.out)
        subst hu
        clear HU
        go_wp2_with (refine wpList_store_whole 23 (.tmp 4) (.tmp 110) (w.heap.size + 1) 13 _ 23 (by rfl) (by rfl) hwh (by rfl) (by kernel_rfl) (by kernel_rfl) ?_)
        obtain ⟨v0, v1, v2, v3, v4, v5, v6, v7, v8, v9, v10, v11, v12⟩ := cells13 (setAll_self (vs := #[.int .i64 0, .int .i64 0, .int .i64 0, .int .i64 0, .int .i64 0, .int .i64 0, .int .i64 0, .int .i64 0, .int .i64 0, .int .i64 0, .bool false, .int .i64 0, .int .i64 0]) hwh rfl)
        exact bodyPost_ret (v := .tuple #[.agg #[.int .i64 0, .int .i64 0, .int .i64 0, .int .i64 0, .int .i64 0, .int .i64 0, .int .i64 0, .int .i64 0, .int .i64 0, .int .i64 0, .bool false, .int .i64 0, .int .i64 0], .bool false]) (by simp [results, Try.results15, go_sem, v0, v1, v2, v3, v4, v5, v6, v7, v8, v9, v10, v11, v12]) rfl ⟨rfl, setAll_below HB.out (by omega)⟩
      · have hu : u = (⟨3, b0, 0, 0, 0, 0, 0, 0, 0, 0, false, 0, 0⟩, 0) := by rw [← HU.out, unp_yes (by rw [HRD.out]; exact HM.out) HN.out, HRD.out]
        subst hu
        clear HU
        go_wp2_with (refine wpList_store_whole 23 (.tmp 4) (.tmp 111) (w.heap.size + 1) 13 _ 23 (by rfl) (by rfl) hwh (by rfl) (by kernel_rfl) (by kernel_rfl) ?_)
        obtain ⟨v0, v1, v2, v3, v4, v5, v6, v7, v8, v9, v10, v11, v12⟩ := cells13 (setAll_self (vs := #[.int .i64 3, .int .i64 b0, .int .i64 0, .int .i64 0, .int .i64 0, .int .i64 0, .int .i64 0, .int .i64 0, .int .i64 0, .int .i64 0, .bool false, .int .i64 0, .int .i64 0]) hwh rfl)
        exact bodyPost_ret (v := .tuple #[.agg #[.int .i64 3, .int .i64 b0, .int .i64 0, .int .i64 0, .int .i64 0, .int .i64 0, .int .i64 0, .int .i64 0, .int .i64 0, .int .i64 0, .bool false, .int .i64 0, .int .i64 0], .bool true]) (by simp [results, Try.results15, go_sem, v0, v1, v2, v3, v4, v5, v6, v7, v8, v9, v10, v11, v12]) rfl ⟨rfl, setAll_below HB.out (by omega)⟩

theorem runp_4 (b0 b1 b2 b3 b4 b5 : Int) (hk : frame.inR 4) (hf : (⟨b0, b1, b2, b3, b4, b5⟩ : Ns).fine) (w : World) : Calls Try.prog 15 #[.int .i64 4, .agg #[.int .i64 b0, .int .i64 b1, .int .i64 b2, .int .i64 b3, .int .i64 b4, .int .i64 b5]] w fun e w' => e = .returned (.tuple #[.agg (rc (unp 4 ⟨b0, b1, b2, b3, b4, b5⟩).1), .bool (decide ((unp 4 ⟨b0, b1, b2, b3, b4, b5⟩).2 = 0))]) ∧ Below w.heap.size w w' := by
  obtain ⟨u, HU⟩ : ∃ u, Hid (unp 4 ⟨b0, b1, b2, b3, b4, b5⟩ = u) := ⟨_, Lib.hid rfl⟩
  rw [HU.out]
  have HRD : Hid (rd 4 ⟨b0, b1, b2, b3, b4, b5⟩ = ⟨4, 0, b0, b1, 0, 0, 0, b2, b3, b4, false, 0, 0⟩) := Lib.hid (by simp [rd, *])
  have HF := Lib.hid (rd_fine hk hf)
  rw [HRD.out] at HF
  obtain ⟨m, HM⟩ : ∃ m, Hid (right ⟨4, 0, b0, b1, 0, 0, 0, b2, b3, b4, false, 0, 0⟩ = m) := ⟨_, Lib.hid rfl⟩
  have HNF : Hid (m = m ∧ b5 = 0 → nums (rd 4 ⟨b0, b1, b2, b3, b4, b5⟩) = ⟨b0, b1, b2, b3, b4, b5⟩) := Lib.hid (by rw [HRD.out]; rintro ⟨_, h5⟩; simp [nums, nz, *]) 
  clear hk hf
  go_enter Try.func15, Try.ntmps15
  go_wp2
  go_loop [8] (fun i => ∃ j : Nat, 5 ≤ j ∧ j ≤ 6 ∧ i = .int .i64 (j : Int) ∧ Hid (True ∧ (5 < j → b5 = 0))) (fun i => 6 - (intOf i).toNat)
  case atStart => exact ⟨5, by omega, by omega, rfl, Lib.hid (by simp)⟩
  case round =>
    obtain ⟨j, hj1, hj2, rfl, HZ⟩ := hrel
    have hc : j = 5 ∨ j = 6 := by omega
    clear hj1 hj2
    rcases hc with rfl | rfl
    · by_cases hb : b5 = 0
      · have hb1 : (b5 != 0) = false := by simp [hb]
        have hb2 : (b5 == 0) = true := by simp [hb]
        have HZ' : Hid (True ∧ (5 < 6 → b5 = 0)) := Lib.hid (by have := HZ.out; simp at this; simp; omega)
        clear hb HZ
        go_wp2
        go_round
        case rel => exact ⟨6, by omega, by omega, by go_num, HZ'⟩
        case measure => first | (simp [intOf]; done) | (simp [intOf]; omega)
      · have hu : u = (rz, 2) := by rw [← HU.out]; exact unp_no1 (by rw [HRD.out]; simp [nums, nz]; omega)
        have hb1 : (b5 != 0) = true := by simp [hb]
        have hb2 : (b5 == 0) = false := by simp [hb]
        subst hu
        clear hb HZ HU
        go_wp2
        exact bodyPost_ret (v := .tuple #[.agg #[.int .i64 0, .int .i64 0, .int .i64 0, .int .i64 0, .int .i64 0, .int .i64 0, .int .i64 0, .int .i64 0, .int .i64 0, .int .i64 0, .bool false, .int .i64 0, .int .i64 0], .bool false]) (by simp [results, Try.results15, go_sem]) rfl ⟨rfl, (((Below.refl _ _).alloc (Nat.le_refl _) _).alloc (by simp) _).alloc (by simp; omega) _⟩
    · have hz := HZ.out
      (try simp at hz)
      have hn : nums (rd 4 ⟨b0, b1, b2, b3, b4, b5⟩) = ⟨b0, b1, b2, b3, b4, b5⟩ := HNF.out (by simp; omega)
      clear hz HZ
      have HN := Lib.hid hn
      clear hn
      go_wp2_with fail
      refine Calls.mono (rright_is 4 0 b0 b1 0 0 0 b2 b3 b4 false 0 0 HF.out HM.out _) ?_
      rintro e w1 ⟨rfl, hb⟩
      have HB : Hid (Below w.heap.size w w1) := Lib.hid (((((Below.refl _ _).alloc (Nat.le_refl _) _).alloc (by simp) _).alloc (by simp; omega) _ : Below w.heap.size w _).trans (hb.mono (by simp; omega)))
      have hx1 : w1.heap[w.heap.size + 1]? = some (.cells #[.int .i64 0, .int .i64 0, .int .i64 0, .int .i64 0, .int .i64 0, .int .i64 0, .int .i64 0, .int .i64 0, .int .i64 0, .int .i64 0, .bool false, .int .i64 0, .int .i64 0] 23 (0, 0)) := (hb.block _ (by simp)).trans ((Below.heap_alloc _ _ _ (by simp)).trans (by have := heap_alloc_new (w.alloc (.cells #[.int .i64 b0, .int .i64 b1, .int .i64 b2, .int .i64 b3, .int .i64 b4, .int .i64 b5] 24)) (.cells #[.int .i64 0, .int .i64 0, .int .i64 0, .int .i64 0, .int .i64 0, .int .i64 0, .int .i64 0, .int .i64 0, .int .i64 0, .int .i64 0, .bool false, .int .i64 0, .int .i64 0] 23); simpa using this))
      have hx2 : w1.heap[w.heap.size + 1 + 1]? = some (.cells #[.int .i64 4, .int .i64 0, .int .i64 b0, .int .i64 b1, .int .i64 0, .int .i64 0, .int .i64 0, .int .i64 b2, .int .i64 b3, .int .i64 b4, .bool false, .int .i64 0, .int .i64 0] 23 (0, 0)) := (hb.block _ (by simp)).trans (by have := heap_alloc_new ((w.alloc (.cells #[.int .i64 b0, .int .i64 b1, .int .i64 b2, .int .i64 b3, .int .i64 b4, .int .i64 b5] 24)).alloc (.cells #[.int .i64 0, .int .i64 0, .int .i64 0, .int .i64 0, .int .i64 0, .int .i64 0, .int .i64 0, .int .i64 0, .int .i64 0, .int .i64 0, .bool false, .int .i64 0, .int .i64 0] 23)) (.cells #[.int .i64 4, .int .i64 0, .int .i64 b0, .int .i64 b1, .int .i64 0, .int .i64 0, .int .i64 0, .int .i64 b2, .int .i64 b3, .int .i64 b4, .bool false, .int .i64 0, .int .i64 0] 23); simpa using this)
      have hwh : World.whole w1 (w.heap.size + 1) 13 23 := whole_of hx1 rfl
      obtain ⟨c0, c1, c2, c3, c4, c5, c6, c7, c8, c9, c10, c11, c12⟩ := cells13 hx2
      clear hb hx1 hx2
      rcases m with _ | _
      · have hu : u = (rz, 2) := by rw [← HU.out]; exact unp_no2 (by rw [HRD.out]; exact HM.out)
        subst hu
        clear HU
        go_wp2_with (refine wpList_store_whole 23 (.tmp 4) (.tmp 110) (w.heap.size + 1) 13 _ 23 (by rfl) (by rfl) hwh (by rfl) (by kernel_rfl) (by kernel_rfl) ?_)
        obtain ⟨v0, v1, v2, v3, v4, v5, v6, v7, v8, v9, v10, v11, v12⟩ := cells13 (setAll_self (vs := #[.int .i64 0, .int .i64 0, .int .i64 0, .int .i64 0, .int .i64 0, .int .i64 0, .int .i64 0, .int .i64 0, .int .i64 0, .int .i64 0, .bool false, .int .i64 0, .int .i64 0]) hwh rfl)
        exact bodyPost_ret (v := .tuple #[.agg #[.int .i64 0, .int .i64 0, .int .i64 0, .int .i64 0, .int .i64 0, .int .i64 0, .int .i64 0, .int .i64 0, .int .i64 0, .int .i64 0, .bool false, .int .i64 0, .int .i64 0], .bool false]) (by simp [results, Try.results15, go_sem, v0, v1, v2, v3, v4, v5, v6, v7, v8, v9, v10, v11, v12]) rfl ⟨rfl, setAll_below HB.out (by omega)⟩
      · have hu : u = (⟨4, 0, b0, b1, 0, 0, 0, b2, b3, b4, false, 0, 0⟩, 0) := by rw [← HU.out, unp_yes (by rw [HRD.out]; exact HM.out) HN.out, HRD.out]
        subst hu
        clear HU
        go_wp2_with (refine wpList_store_whole 23 (.tmp 4) (.tmp 111) (w.heap.size + 1) 13 _ 23 (by rfl) (by rfl) hwh (by rfl) (by kernel_rfl) (by kernel_rfl) ?_)
        obtain ⟨v0, v1, v2, v3, v4, v5, v6, v7, v8, v9, v10, v11, v12⟩ := cells13 (setAll_self (vs := #[.int .i64 4, .int .i64 0, .int .i64 b0, .int .i64 b1, .int .i64 0, .int .i64 0, .int .i64 0, .int .i64 b2, .int .i64 b3, .int .i64 b4, .bool false, .int .i64 0, .int .i64 0]) hwh rfl)
        exact bodyPost_ret (v := .tuple #[.agg #[.int .i64 4, .int .i64 0, .int .i64 b0, .int .i64 b1, .int .i64 0, .int .i64 0, .int .i64 0, .int .i64 b2, .int .i64 b3, .int .i64 b4, .bool false, .int .i64 0, .int .i64 0], .bool true]) (by simp [results, Try.results15, go_sem, v0, v1, v2, v3, v4, v5, v6, v7, v8, v9, v10, v11, v12]) rfl ⟨rfl, setAll_below HB.out (by omega)⟩

theorem runp_5z (b1 b2 b3 b4 b5 : Int) (hk : frame.inR 5) (hf : (⟨0, b1, b2, b3, b4, b5⟩ : Ns).fine) (w : World) : Calls Try.prog 15 #[.int .i64 5, .agg #[.int .i64 0, .int .i64 b1, .int .i64 b2, .int .i64 b3, .int .i64 b4, .int .i64 b5]] w fun e w' => e = .returned (.tuple #[.agg (rc (unp 5 ⟨0, b1, b2, b3, b4, b5⟩).1), .bool (decide ((unp 5 ⟨0, b1, b2, b3, b4, b5⟩).2 = 0))]) ∧ Below w.heap.size w w' := by
  obtain ⟨u, HU⟩ : ∃ u, Hid (unp 5 ⟨0, b1, b2, b3, b4, b5⟩ = u) := ⟨_, Lib.hid rfl⟩
  rw [HU.out]
  have HRD : Hid (rd 5 ⟨0, b1, b2, b3, b4, b5⟩ = ⟨5, 0, 0, 0, 0, 0, 0, 0, 0, 0, false, 0, 0⟩) := Lib.hid (by simp [rd, *])
  have HF := Lib.hid (rd_fine hk hf)
  rw [HRD.out] at HF
  obtain ⟨m, HM⟩ : ∃ m, Hid (right ⟨5, 0, 0, 0, 0, 0, 0, 0, 0, 0, false, 0, 0⟩ = m) := ⟨_, Lib.hid rfl⟩
  have HNF : Hid (m = m ∧ b1 = 0 ∧ b2 = 0 ∧ b3 = 0 ∧ b4 = 0 ∧ b5 = 0 → nums (rd 5 ⟨0, b1, b2, b3, b4, b5⟩) = ⟨0, b1, b2, b3, b4, b5⟩) := Lib.hid (by rw [HRD.out]; rintro ⟨_, h1, h2, h3, h4, h5⟩; simp [nums, nz, *]) 
  clear hk hf
  go_enter Try.func15, Try.ntmps15
  go_wp2
  go_loop [8] (fun i => ∃ j : Nat, 1 ≤ j ∧ j ≤ 6 ∧ i = .int .i64 (j : Int) ∧ Hid (True ∧ (1 < j → b1 = 0) ∧ (2 < j → b2 = 0) ∧ (3 < j → b3 = 0) ∧ (4 < j → b4 = 0) ∧ (5 < j → b5 = 0))) (fun i => 6 - (intOf i).toNat)
  case atStart => exact ⟨1, by omega, by omega, rfl, Lib.hid (by simp)⟩
  case round =>
    obtain ⟨j, hj1, hj2, rfl, HZ⟩ := hrel
    have hc : j = 1 ∨ j = 2 ∨ j = 3 ∨ j = 4 ∨ j = 5 ∨ j = 6 := by omega
    clear hj1 hj2
    rcases hc with rfl | rfl | rfl | rfl | rfl | rfl
    · by_cases hb : b1 = 0
      · have hb1 : (b1 != 0) = false := by simp [hb]
        have hb2 : (b1 == 0) = true := by simp [hb]
        have HZ' : Hid (True ∧ (1 < 2 → b1 = 0) ∧ (2 < 2 → b2 = 0) ∧ (3 < 2 → b3 = 0) ∧ (4 < 2 → b4 = 0) ∧ (5 < 2 → b5 = 0)) := Lib.hid (by have := HZ.out; simp at this; simp; omega)
        clear hb HZ
        go_wp2
        go_round
        case rel => exact ⟨2, by omega, by omega, by go_num, HZ'⟩
        case measure => first | (simp [intOf]; done) | (simp [intOf]; omega)
      · have hu : u = (rz, 2) := by rw [← HU.out]; exact unp_no1 (by rw [HRD.out]; simp [nums, nz]; omega)
        have hb1 : (b1 != 0) = true := by simp [hb]
        have hb2 : (b1 == 0) = false := by simp [hb]
        subst hu
        clear hb HZ HU
        go_wp2
        exact bodyPost_ret (v := .tuple #[.agg #[.int .i64 0, .int .i64 0, .int .i64 0, .int .i64 0, .int .i64 0, .int .i64 0, .int .i64 0, .int .i64 0, .int .i64 0, .int .i64 0, .bool false, .int .i64 0, .int .i64 0], .bool false]) (by simp [results, Try.results15, go_sem]) rfl ⟨rfl, (((Below.refl _ _).alloc (Nat.le_refl _) _).alloc (by simp) _).alloc (by simp; omega) _⟩
    · by_cases hb : b2 = 0
      · have hb1 : (b2 != 0) = false := by simp [hb]
        have hb2 : (b2 == 0) = true := by simp [hb]
        have HZ' : Hid (True ∧ (1 < 3 → b1 = 0) ∧ (2 < 3 → b2 = 0) ∧ (3 < 3 → b3 = 0) ∧ (4 < 3 → b4 = 0) ∧ (5 < 3 → b5 = 0)) := Lib.hid (by have := HZ.out; simp at this; simp; omega)
        clear hb HZ
        go_wp2
        go_round
        case rel => exact ⟨3, by omega, by omega, by go_num, HZ'⟩
        case measure => first | (simp [intOf]; done) | (simp [intOf]; omega)
      · have hu : u = (rz, 2) := by rw [← HU.out]; exact unp_no1 (by rw [HRD.out]; simp [nums, nz]; omega)
        have hb1 : (b2 != 0) = true := by simp [hb]
        have hb2 : (b2 == 0) = false := by simp [hb]
        subst hu
        clear hb HZ HU
        go_wp2
        exact bodyPost_ret (v := .tuple #[.agg #[.int .i64 0, .int .i64 0, .int .i64 0, .int .i64 0, .int .i64 0, .int .i64 0, .int .i64 0, .int .i64 0, .int .i64 0, .int .i64 0, .bool false, .int .i64 0, .int .i64 0], .bool false]) (by simp [results, Try.results15, go_sem]) rfl ⟨rfl, (((Below.refl _ _).alloc (Nat.le_refl _) _).alloc (by simp) _).alloc (by simp; omega) _⟩
    · by_cases hb : b3 = 0
      · have hb1 : (b3 != 0) = false := by simp [hb]
        have hb2 : (b3 == 0) = true := by simp [hb]
        have HZ' : Hid (True ∧ (1 < 4 → b1 = 0) ∧ (2 < 4 → b2 = 0) ∧ (3 < 4 → b3 = 0) ∧ (4 < 4 → b4 = 0) ∧ (5 < 4 → b5 = 0)) := Lib.hid (by have := HZ.out; simp at this; simp; omega)
        clear hb HZ
        go_wp2
        go_round
        case rel => exact ⟨4, by omega, by omega, by go_num, HZ'⟩
        case measure => first | (simp [intOf]; done) | (simp [intOf]; omega)
      · have hu : u = (rz, 2) := by rw [← HU.out]; exact unp_no1 (by rw [HRD.out]; simp [nums, nz]; omega)
        have hb1 : (b3 != 0) = true := by simp [hb]
        have hb2 : (b3 == 0) = false := by simp [hb]
        subst hu
        clear hb HZ HU
        go_wp2
        exact bodyPost_ret (v := .tuple #[.agg #[.int .i64 0, .int .i64 0, .int .i64 0, .int .i64 0, .int .i64 0, .int .i64 0, .int .i64 0, .int .i64 0, .int .i64 0, .int .i64 0, .bool false, .int .i64 0, .int .i64 0], .bool false]) (by simp [results, Try.results15, go_sem]) rfl ⟨rfl, (((Below.refl _ _).alloc (Nat.le_refl _) _).alloc (by simp) _).alloc (by simp; omega) _⟩
    · by_cases hb : b4 = 0
      · have hb1 : (b4 != 0) = false := by simp [hb]
        have hb2 : (b4 == 0) = true := by simp [hb]
        have HZ' : Hid (True ∧ (1 < 5 → b1 = 0) ∧ (2 < 5 → b2 = 0) ∧ (3 < 5 → b3 = 0) ∧ (4 < 5 → b4 = 0) ∧ (5 < 5 → b5 = 0)) := Lib.hid (by have := HZ.out; simp at this; simp; omega)
        clear hb HZ
        go_wp2
        go_round
        case rel => exact ⟨5, by omega, by omega, by go_num, HZ'⟩
        case measure => first | (simp [intOf]; done) | (simp [intOf]; omega)
      · have hu : u = (rz, 2) := by rw [← HU.out]; exact unp_no1 (by rw [HRD.out]; simp [nums, nz]; omega)
        have hb1 : (b4 != 0) = true := by simp [hb]
        have hb2 : (b4 == 0) = false := by simp [hb]
        subst hu
        clear hb HZ HU
        go_wp2
        exact bodyPost_ret (v := .tuple #[.agg #[.int .i64 0, .int .i64 0, .int .i64 0, .int .i64 0, .int .i64 0, .int .i64 0, .int .i64 0, .int .i64 0, .int .i64 0, .int .i64 0, .bool false, .int .i64 0, .int .i64 0], .bool false]) (by simp [results, Try.results15, go_sem]) rfl ⟨rfl, (((Below.refl _ _).alloc (Nat.le_refl _) _).alloc (by simp) _).alloc (by simp; omega) _⟩
    · by_cases hb : b5 = 0
      · have hb1 : (b5 != 0) = false := by simp [hb]
        have hb2 : (b5 == 0) = true := by simp [hb]
        have HZ' : Hid (True ∧ (1 < 6 → b1 = 0) ∧ (2 < 6 → b2 = 0) ∧ (3 < 6 → b3 = 0) ∧ (4 < 6 → b4 = 0) ∧ (5 < 6 → b5 = 0)) := Lib.hid (by have := HZ.out; simp at this; simp; omega)
        clear hb HZ
        go_wp2
        go_round
        case rel => exact ⟨6, by omega, by omega, by go_num, HZ'⟩
        case measure => first | (simp [intOf]; done) | (simp [intOf]; omega)
      · have hu : u = (rz, 2) := by rw [← HU.out]; exact unp_no1 (by rw [HRD.out]; simp [nums, nz]; omega)
        have hb1 : (b5 != 0) = true := by simp [hb]
        have hb2 : (b5 == 0) = false := by simp [hb]
        subst hu
        clear hb HZ HU
        go_wp2
        exact bodyPost_ret (v := .tuple #[.agg #[.int .i64 0, .int .i64 0, .int .i64 0, .int .i64 0, .int .i64 0, .int .i64 0, .int .i64 0, .int .i64 0, .int .i64 0, .int .i64 0, .bool false, .int .i64 0, .int .i64 0], .bool false]) (by simp [results, Try.results15, go_sem]) rfl ⟨rfl, (((Below.refl _ _).alloc (Nat.le_refl _) _).alloc (by simp) _).alloc (by simp; omega) _⟩
    · have hz := HZ.out
      (try simp at hz)
      have hn : nums (rd 5 ⟨0, b1, b2, b3, b4, b5⟩) = ⟨0, b1, b2, b3, b4, b5⟩ := HNF.out (by simp; omega)
      clear hz HZ
      have HN := Lib.hid hn
      clear hn
      go_wp2_with fail
      refine Calls.mono (rright_is 5 0 0 0 0 0 0 0 0 0 false 0 0 HF.out HM.out _) ?_
      rintro e w1 ⟨rfl, hb⟩
      have HB : Hid (Below w.heap.size w w1) := Lib.hid (((((Below.refl _ _).alloc (Nat.le_refl _) _).alloc (by simp) _).alloc (by simp; omega) _ : Below w.heap.size w _).trans (hb.mono (by simp; omega)))
      have hx1 : w1.heap[w.heap.size + 1]? = some (.cells #[.int .i64 0, .int .i64 0, .int .i64 0, .int .i64 0, .int .i64 0, .int .i64 0, .int .i64 0, .int .i64 0, .int .i64 0, .int .i64 0, .bool false, .int .i64 0, .int .i64 0] 23 (0, 0)) := (hb.block _ (by simp)).trans ((Below.heap_alloc _ _ _ (by simp)).trans (by have := heap_alloc_new (w.alloc (.cells #[.int .i64 0, .int .i64 b1, .int .i64 b2, .int .i64 b3, .int .i64 b4, .int .i64 b5] 24)) (.cells #[.int .i64 0, .int .i64 0, .int .i64 0, .int .i64 0, .int .i64 0, .int .i64 0, .int .i64 0, .int .i64 0, .int .i64 0, .int .i64 0, .bool false, .int .i64 0, .int .i64 0] 23); simpa using this))
      have hx2 : w1.heap[w.heap.size + 1 + 1]? = some (.cells #[.int .i64 5, .int .i64 0, .int .i64 0, .int .i64 0, .int .i64 0, .int .i64 0, .int .i64 0, .int .i64 0, .int .i64 0, .int .i64 0, .bool false, .int .i64 0, .int .i64 0] 23 (0, 0)) := (hb.block _ (by simp)).trans (by have := heap_alloc_new ((w.alloc (.cells #[.int .i64 0, .int .i64 b1, .int .i64 b2, .int .i64 b3, .int .i64 b4, .int .i64 b5] 24)).alloc (.cells #[.int .i64 0, .int .i64 0, .int .i64 0, .int .i64 0, .int .i64 0, .int .i64 0, .int .i64 0, .int .i64 0, .int .i64 0, .int .i64 0, .bool false, .int .i64 0, .int .i64 0] 23)) (.cells #[.int .i64 5, .int .i64 0, .int .i64 0, .int .i64 0, .int .i64 0, .int .i64 0, .int .i64 0, .int .i64 0, .int .i64 0, .int .i64 0, .bool false, .int .i64 0, .int .i64 0] 23); simpa using this)
      have hwh : World.whole w1 (w.heap.size + 1) 13 23 := whole_of hx1 rfl
      obtain ⟨c0, c1, c2, c3, c4, c5, c6, c7, c8, c9, c10, c11, c12⟩ := cells13 hx2
      clear hb hx1 hx2
      rcases m with _ | _
      · have hu : u = (rz, 2) := by rw [← HU.out]; exact unp_no2 (by rw [HRD.out]; exact HM.out)
        subst hu
        clear HU
        go_wp2_with (refine wpList_store_whole 23 (.tmp 4) (.tmp 110) (w.heap.size + 1) 13 _ 23 (by rfl) (by rfl) hwh (by rfl) (by kernel_rfl) (by kernel_rfl) ?_)
        obtain ⟨v0, v1, v2, v3, v4, v5, v6, v7, v8, v9, v10, v11, v12⟩ := cells13 (setAll_self (vs := #[.int .i64 0, .int .i64 0, .int .i64 0, .int .i64 0, .int .i64 0, .int .i64 0, .int .i64 0, .int .i64 0, .int .i64 0, .int .i64 0, .bool false, .int .i64 0, .int .i64 0]) hwh rfl)
        exact bodyPost_ret (v := .tuple #[.agg #[.int .i64 0, .int .i64 0, .int .i64 0, .int .i64 0, .int .i64 0, .int .i64 0, .int .i64 0, .int .i64 0, .int .i64 0, .int .i64 0, .bool false, .int .i64 0, .int .i64 0], .bool false]) (by simp [results, Try.results15, go_sem, v0, v1, v2, v3, v4, v5, v6, v7, v8, v9, v10, v11, v12]) rfl ⟨rfl, setAll_below HB.out (by omega)⟩
      · have hu : u = (⟨5, 0, 0, 0, 0, 0, 0, 0, 0, 0, false, 0, 0⟩, 0) := by rw [← HU.out, unp_yes (by rw [HRD.out]; exact HM.out) HN.out, HRD.out]
        subst hu
        clear HU
        go_wp2_with (refine wpList_store_whole 23 (.tmp 4) (.tmp 111) (w.heap.size + 1) 13 _ 23 (by rfl) (by rfl) hwh (by rfl) (by kernel_rfl) (by kernel_rfl) ?_)
        obtain ⟨v0, v1, v2, v3, v4, v5, v6, v7, v8, v9, v10, v11, v12⟩ := cells13 (setAll_self (vs := #[.int .i64 5, .int .i64 0, .int .i64 0, .int .i64 0, .int .i64 0, .int .i64 0, .int .i64 0, .int .i64 0, .int .i64 0, .int .i64 0, .bool false, .int .i64 0, .int .i64 0]) hwh rfl)
        exact bodyPost_ret (v := .tuple #[.agg #[.int .i64 5, .int .i64 0, .int .i64 0, .int .i64 0, .int .i64 0, .int .i64 0, .int .i64 0, .int .i64 0, .int .i64 0, .int .i64 0, .bool false, .int .i64 0, .int .i64 0], .bool true]) (by simp [results, Try.results15, go_sem, v0, v1, v2, v3, v4, v5, v6, v7, v8, v9, v10, v11, v12]) rfl ⟨rfl, setAll_below HB.out (by omega)⟩

theorem runp_5o (b1 b2 b3 b4 b5 : Int) (hk : frame.inR 5) (hf : (⟨1, b1, b2, b3, b4, b5⟩ : Ns).fine) (w : World) : Calls Try.prog 15 #[.int .i64 5, .agg #[.int .i64 1, .int .i64 b1, .int .i64 b2, .int .i64 b3, .int .i64 b4, .int .i64 b5]] w fun e w' => e = .returned (.tuple #[.agg (rc (unp 5 ⟨1, b1, b2, b3, b4, b5⟩).1), .bool (decide ((unp 5 ⟨1, b1, b2, b3, b4, b5⟩).2 = 0))]) ∧ Below w.heap.size w w' := by
  obtain ⟨u, HU⟩ : ∃ u, Hid (unp 5 ⟨1, b1, b2, b3, b4, b5⟩ = u) := ⟨_, Lib.hid rfl⟩
  rw [HU.out]
  have HRD : Hid (rd 5 ⟨1, b1, b2, b3, b4, b5⟩ = ⟨5, 0, 0, 0, 0, 0, 0, 0, 0, 0, true, 0, 0⟩) := Lib.hid (by simp [rd, *])
  have HF := Lib.hid (rd_fine hk hf)
  rw [HRD.out] at HF
  obtain ⟨m, HM⟩ : ∃ m, Hid (right ⟨5, 0, 0, 0, 0, 0, 0, 0, 0, 0, true, 0, 0⟩ = m) := ⟨_, Lib.hid rfl⟩
  have HNF : Hid (m = m ∧ b1 = 0 ∧ b2 = 0 ∧ b3 = 0 ∧ b4 = 0 ∧ b5 = 0 → nums (rd 5 ⟨1, b1, b2, b3, b4, b5⟩) = ⟨1, b1, b2, b3, b4, b5⟩) := Lib.hid (by rw [HRD.out]; rintro ⟨_, h1, h2, h3, h4, h5⟩; simp [nums, nz, *]) 
  clear hk hf
  go_enter Try.func15, Try.ntmps15
  go_wp2
  go_loop [8] (fun i => ∃ j : Nat, 1 ≤ j ∧ j ≤ 6 ∧ i = .int .i64 (j : Int) ∧ Hid (True ∧ (1 < j → b1 = 0) ∧ (2 < j → b2 = 0) ∧ (3 < j → b3 = 0) ∧ (4 < j → b4 = 0) ∧ (5 < j → b5 = 0))) (fun i => 6 - (intOf i).toNat)
  case atStart => exact ⟨1, by omega, by omega, rfl, Lib.hid (by simp)⟩
  case round =>
    obtain ⟨j, hj1, hj2, rfl, HZ⟩ := hrel
    have hc : j = 1 ∨ j = 2 ∨ j = 3 ∨ j = 4 ∨ j = 5 ∨ j = 6 := by omega
    clear hj1 hj2
    rcases hc with rfl | rfl | rfl | rfl | rfl | rfl
    · by_cases hb : b1 = 0
      · have hb1 : (b1 != 0) = false := by simp [hb]
        have hb2 : (b1 == 0) = true := by simp [hb]
        have HZ' : Hid (True ∧ (1 < 2 → b1 = 0) ∧ (2 < 2 → b2 = 0) ∧ (3 < 2 → b3 = 0) ∧ (4 < 2 → b4 = 0) ∧ (5 < 2 → b5 = 0)) := Lib.hid (by have := HZ.out; simp at this; simp; omega)
        clear hb HZ
        go_wp2
        go_round
        case rel => exact ⟨2, by omega, by omega, by go_num, HZ'⟩
        case measure => first | (simp [intOf]; done) | (simp [intOf]; omega)
      · have hu : u = (rz, 2) := by rw [← HU.out]; exact unp_no1 (by rw [HRD.out]; simp [nums, nz]; omega)
        have hb1 : (b1 != 0) = true := by simp [hb]
        have hb2 : (b1 == 0) = false := by simp [hb]
        subst hu
        clear hb HZ HU
        go_wp2
        exact bodyPost_ret (v := .tuple #[.agg #[.int .i64 0, .int .i64 0, .int .i64 0, .int .i64 0, .int .i64 0, .int .i64 0, .int .i64 0, .int .i64 0, .int .i64 0, .int .i64 0, .bool false, .int .i64 0, .int .i64 0], .bool false]) (by simp [results, Try.results15, go_sem]) rfl ⟨rfl, (((Below.refl _ _).alloc (Nat.le_refl _) _).alloc (by simp) _).alloc (by simp; omega) _⟩
    · by_cases hb : b2 = 0
      · have hb1 : (b2 != 0) = false := by simp [hb]
        have hb2 : (b2 == 0) = true := by simp [hb]
        have HZ' : Hid (True ∧ (1 < 3 → b1 = 0) ∧ (2 < 3 → b2 = 0) ∧ (3 < 3 → b3 = 0) ∧ (4 < 3 → b4 = 0) ∧ (5 < 3 → b5 = 0)) := Lib.hid (by have := HZ.out; simp at this; simp; omega)
        clear hb HZ
        go_wp2
        go_round
        case rel => exact ⟨3, by omega, by omega, by go_num, HZ'⟩
        case measure => first | (simp [intOf]; done) | (simp [intOf]; omega)
      · have hu : u = (rz, 2) := by rw [← HU.out]; exact unp_no1 (by rw [HRD.out]; simp [nums, nz]; omega)
        have hb1 : (b2 != 0) = true := by simp [hb]
        have hb2 : (b2 == 0) = false := by simp [hb]
        subst hu
        clear hb HZ HU
        go_wp2
        exact bodyPost_ret (v := .tuple #[.agg #[.int .i64 0, .int .i64 0, .int .i64 0, .int .i64 0, .int .i64 0, .int .i64 0, .int .i64 0, .int .i64 0, .int .i64 0, .int .i64 0, .bool false, .int .i64 0, .int .i64 0], .bool false]) (by simp [results, Try.results15, go_sem]) rfl ⟨rfl, (((Below.refl _ _).alloc (Nat.le_refl _) _).alloc (by simp) _).alloc (by simp; omega) _⟩
    · by_cases hb : b3 = 0
      · have hb1 : (b3 != 0) = false := by simp [hb]
        have hb2 : (b3 == 0) = true := by simp [hb]
        have HZ' : Hid (True ∧ (1 < 4 → b1 = 0) ∧ (2 < 4 → b2 = 0) ∧ (3 < 4 → b3 = 0) ∧ (4 < 4 → b4 = 0) ∧ (5 < 4 → b5 = 0)) := Lib.hid (by have := HZ.out; simp at this; simp; omega)
        clear hb HZ
        go_wp2
        go_round
        case rel => exact ⟨4, by omega, by omega, by go_num, HZ'⟩
        case measure => first | (simp [intOf]; done) | (simp [intOf]; omega)
      · have hu : u = (rz, 2) := by rw [← HU.out]; exact unp_no1 (by rw [HRD.out]; simp [nums, nz]; omega)
        have hb1 : (b3 != 0) = true := by simp [hb]
        have hb2 : (b3 == 0) = false := by simp [hb]
        subst hu
        clear hb HZ HU
        go_wp2
        exact bodyPost_ret (v := .tuple #[.agg #[.int .i64 0, .int .i64 0, .int .i64 0, .int .i64 0, .int .i64 0, .int .i64 0, .int .i64 0, .int .i64 0, .int .i64 0, .int .i64 0, .bool false, .int .i64 0, .int .i64 0], .bool false]) (by simp [results, Try.results15, go_sem]) rfl ⟨rfl, (((Below.refl _ _).alloc (Nat.le_refl _) _).alloc (by simp) _).alloc (by simp; omega) _⟩
    · by_cases hb : b4 = 0
      · have hb1 : (b4 != 0) = false := by simp [hb]
        have hb2 : (b4 == 0) = true := by simp [hb]
        have HZ' : Hid (True ∧ (1 < 5 → b1 = 0) ∧ (2 < 5 → b2 = 0) ∧ (3 < 5 → b3 = 0) ∧ (4 < 5 → b4 = 0) ∧ (5 < 5 → b5 = 0)) := Lib.hid (by have := HZ.out; simp at this; simp; omega)
        clear hb HZ
        go_wp2
        go_round
        case rel => exact ⟨5, by omega, by omega, by go_num, HZ'⟩
        case measure => first | (simp [intOf]; done) | (simp [intOf]; omega)
      · have hu : u = (rz, 2) := by rw [← HU.out]; exact unp_no1 (by rw [HRD.out]; simp [nums, nz]; omega)
        have hb1 : (b4 != 0) = true := by simp [hb]
        have hb2 : (b4 == 0) = false := by simp [hb]
        subst hu
        clear hb HZ HU
        go_wp2
        exact bodyPost_ret (v := .tuple #[.agg #[.int .i64 0, .int .i64 0, .int .i64 0, .int .i64 0, .int .i64 0, .int .i64 0, .int .i64 0, .int .i64 0, .int .i64 0, .int .i64 0, .bool false, .int .i64 0, .int .i64 0], .bool false]) (by simp [results, Try.results15, go_sem]) rfl ⟨rfl, (((Below.refl _ _).alloc (Nat.le_refl _) _).alloc (by simp) _).alloc (by simp; omega) _⟩
    · by_cases hb : b5 = 0
      · have hb1 : (b5 != 0) = false := by simp [hb]
        have hb2 : (b5 == 0) = true := by simp [hb]
        have HZ' : Hid (True ∧ (1 < 6 → b1 = 0) ∧ (2 < 6 → b2 = 0) ∧ (3 < 6 → b3 = 0) ∧ (4 < 6 → b4 = 0) ∧ (5 < 6 → b5 = 0)) := Lib.hid (by have := HZ.out; simp at this; simp; omega)
        clear hb HZ
        go_wp2
        go_round
        case rel => exact ⟨6, by omega, by omega, by go_num, HZ'⟩
        case measure => first | (simp [intOf]; done) | (simp [intOf]; omega)
      · have hu : u = (rz, 2) := by rw [← HU.out]; exact unp_no1 (by rw [HRD.out]; simp [nums, nz]; omega)
        have hb1 : (b5 != 0) = true := by simp [hb]
        have hb2 : (b5 == 0) = false := by simp [hb]
        subst hu
        clear hb HZ HU
        go_wp2
        exact bodyPost_ret (v := .tuple #[.agg #[.int .i64 0, .int .i64 0, .int .i64 0, .int .i64 0, .int .i64 0, .int .i64 0, .int .i64 0, .int .i64 0, .int .i64 0, .int .i64 0, .bool false, .int .i64 0, .int .i64 0], .bool false]) (by simp [results, Try.results15, go_sem]) rfl ⟨rfl, (((Below.refl _ _).alloc (Nat.le_refl _) _).alloc (by simp) _).alloc (by simp; omega) _⟩
    · have hz := HZ.out
      (try simp at hz)
      have hn : nums (rd 5 ⟨1, b1, b2, b3, b4, b5⟩) = ⟨1, b1, b2, b3, b4, b5⟩ := HNF.out (by simp; omega)
      clear hz HZ
      have HN := Lib.hid hn
      clear hn
      go_wp2_with fail
      refine Calls.mono (rright_is 5 0 0 0 0 0 0 0 0 0 true 0 0 HF.out HM.out _) ?_
      rintro e w1 ⟨rfl, hb⟩
      have HB : Hid (Below w.heap.size w w1) := Lib.hid (((((Below.refl _ _).alloc (Nat.le_refl _) _).alloc (by simp) _).alloc (by simp; omega) _ : Below w.heap.size w _).trans (hb.mono (by simp; omega)))
      have hx1 : w1.heap[w.heap.size + 1]? = some (.cells #[.int .i64 0, .int .i64 0, .int .i64 0, .int .i64 0, .int .i64 0, .int .i64 0, .int .i64 0, .int .i64 0, .int .i64 0, .int .i64 0, .bool false, .int .i64 0, .int .i64 0] 23 (0, 0)) := (hb.block _ (by simp)).trans ((Below.heap_alloc _ _ _ (by simp)).trans (by have := heap_alloc_new (w.alloc (.cells #[.int .i64 1, .int .i64 b1, .int .i64 b2, .int .i64 b3, .int .i64 b4, .int .i64 b5] 24)) (.cells #[.int .i64 0, .int .i64 0, .int .i64 0, .int .i64 0, .int .i64 0, .int .i64 0, .int .i64 0, .int .i64 0, .int .i64 0, .int .i64 0, .bool false, .int .i64 0, .int .i64 0] 23); simpa using this))
      have hx2 : w1.heap[w.heap.size + 1 + 1]? = some (.cells #[.int .i64 5, .int .i64 0, .int .i64 0, .int .i64 0, .int .i64 0, .int .i64 0, .int .i64 0, .int .i64 0, .int .i64 0, .int .i64 0, .bool true, .int .i64 0, .int .i64 0] 23 (0, 0)) := (hb.block _ (by simp)).trans (by have := heap_alloc_new ((w.alloc (.cells #[.int .i64 1, .int .i64 b1, .int .i64 b2, .int .i64 b3, .int .i64 b4, .int .i64 b5] 24)).alloc (.cells #[.int .i64 0, .int .i64 0, .int .i64 0, .int .i64 0, .int .i64 0, .int .i64 0, .int .i64 0, .int .i64 0, .int .i64 0, .int .i64 0, .bool false, .int .i64 0, .int .i64 0] 23)) (.cells #[.int .i64 5, .int .i64 0, .int .i64 0, .int .i64 0, .int .i64 0, .int .i64 0, .int .i64 0, .int .i64 0, .int .i64 0, .int .i64 0, .bool true, .int .i64 0, .int .i64 0] 23); simpa using this)
      have hwh : World.whole w1 (w.heap.size + 1) 13 23 := whole_of hx1 rfl
      obtain ⟨c0, c1, c2, c3, c4, c5, c6, c7, c8, c9, c10, c11, c12⟩ := cells13 hx2
      clear hb hx1 hx2
      rcases m with _ | _
      · have hu : u = (rz, 2) := by rw [← HU.out]; exact unp_no2 (by rw [HRD.out]; exact HM.out)
        subst hu
        clear HU
        go_wp2_with (refine wpList_store_whole 23 (.tmp 4) (.tmp 110) (w.heap.size + 1) 13 _ 23 (by rfl) (by rfl) hwh (by rfl) (by kernel_rfl) (by kernel_rfl) ?_)
        obtain ⟨v0, v1, v2, v3, v4, v5, v6, v7, v8, v9, v10, v11, v12⟩ := cells13 (setAll_self (vs := #[.int .i64 0, .int .i64 0, .int .i64 0, .int .i64 0, .int .i64 0, .int .i64 0, .int .i64 0, .int .i64 0, .int .i64 0, .int .i64 0, .bool false, .int .i64 0, .int .i64 0]) hwh rfl)
        exact bodyPost_ret (v := .tuple #[.agg #[.int .i64 0, .int .i64 0, .int .i64 0, .int .i64 0, .int .i64 0, .int .i64 0, .int .i64 0, .int .i64 0, .int .i64 0, .int .i64 0, .bool false, .int .i64 0, .int .i64 0], .bool false]) (by simp [results, Try.results15, go_sem, v0, v1, v2, v3, v4, v5, v6, v7, v8, v9, v10, v11, v12]) rfl ⟨rfl, setAll_below HB.out (by omega)⟩
      · have hu : u = (⟨5, 0, 0, 0, 0, 0, 0, 0, 0, 0, true, 0, 0⟩, 0) := by rw [← HU.out, unp_yes (by rw [HRD.out]; exact HM.out) HN.out, HRD.out]
        subst hu
        clear HU
        go_wp2_with (refine wpList_store_whole 23 (.tmp 4) (.tmp 111) (w.heap.size + 1) 13 _ 23 (by rfl) (by rfl) hwh (by rfl) (by kernel_rfl) (by kernel_rfl) ?_)
        obtain ⟨v0, v1, v2, v3, v4, v5, v6, v7, v8, v9, v10, v11, v12⟩ := cells13 (setAll_self (vs := #[.int .i64 5, .int .i64 0, .int .i64 0, .int .i64 0, .int .i64 0, .int .i64 0, .int .i64 0, .int .i64 0, .int .i64 0, .int .i64 0, .bool true, .int .i64 0, .int .i64 0]) hwh rfl)
        exact bodyPost_ret (v := .tuple #[.agg #[.int .i64 5, .int .i64 0, .int .i64 0, .int .i64 0, .int .i64 0, .int .i64 0, .int .i64 0, .int .i64 0, .int .i64 0, .int .i64 0, .bool true, .int .i64 0, .int .i64 0], .bool true]) (by simp [results, Try.results15, go_sem, v0, v1, v2, v3, v4, v5, v6, v7, v8, v9, v10, v11, v12]) rfl ⟨rfl, setAll_below HB.out (by omega)⟩

theorem runp_5x (b0 b1 b2 b3 b4 b5 : Int) (hk : frame.inR 5) (hf : (⟨b0, b1, b2, b3, b4, b5⟩ : Ns).fine) (h0 : (b0 != 0) = true) (h1 : (b0 != 1) = true) (w : World) : Calls Try.prog 15 #[.int .i64 5, .agg #[.int .i64 b0, .int .i64 b1, .int .i64 b2, .int .i64 b3, .int .i64 b4, .int .i64 b5]] w fun e w' => e = .returned (.tuple #[.agg (rc (unp 5 ⟨b0, b1, b2, b3, b4, b5⟩).1), .bool (decide ((unp 5 ⟨b0, b1, b2, b3, b4, b5⟩).2 = 0))]) ∧ Below w.heap.size w w' := by
  obtain ⟨u, HU⟩ : ∃ u, Hid (unp 5 ⟨b0, b1, b2, b3, b4, b5⟩ = u) := ⟨_, Lib.hid rfl⟩
  rw [HU.out]
  have g0 : b0 ≠ 0 := by simpa using h0
  have g1 : b0 ≠ 1 := by simpa using h1
  have hu : u = (rz, 2) := by rw [← HU.out]; exact unp_no1 (by simp [rd, nums, nz, g1]; intro h; exact absurd h.symm g0)
  subst hu
  clear HU
  go_enter Try.func15, Try.ntmps15
  go_wp2
  exact bodyPost_ret (v := .tuple #[.agg #[.int .i64 0, .int .i64 0, .int .i64 0, .int .i64 0, .int .i64 0, .int .i64 0, .int .i64 0, .int .i64 0, .int .i64 0, .int .i64 0, .bool false, .int .i64 0, .int .i64 0], .bool false]) (by simp [results, Try.results15, go_sem]) rfl ⟨rfl, (((Below.refl _ _).alloc (Nat.le_refl _) _).alloc (by simp) _).alloc (by simp; omega) _⟩

theorem runp_6 (b0 b1 b2 b3 b4 b5 : Int) (hk : frame.inR 6) (hf : (⟨b0, b1, b2, b3, b4, b5⟩ : Ns).fine) (w : World) : Calls Try.prog 15 #[.int .i64 6, .agg #[.int .i64 b0, .int .i64 b1, .int .i64 b2, .int .i64 b3, .int .i64 b4, .int .i64 b5]] w fun e w' => e = .returned (.tuple #[.agg (rc (unp 6 ⟨b0, b1, b2, b3, b4, b5⟩).1), .bool (decide ((unp 6 ⟨b0, b1, b2, b3, b4, b5⟩).2 = 0))]) ∧ Below w.heap.size w w' := by
  obtain ⟨u, HU⟩ : ∃ u, Hid (unp 6 ⟨b0, b1, b2, b3, b4, b5⟩ = u) := ⟨_, Lib.hid rfl⟩
  rw [HU.out]
  have HRD : Hid (rd 6 ⟨b0, b1, b2, b3, b4, b5⟩ = ⟨6, b2, 0, 0, 0, b3, b4, 0, 0, 0, false, b0, b1⟩) := Lib.hid (by simp [rd, *])
  have HF := Lib.hid (rd_fine hk hf)
  rw [HRD.out] at HF
  obtain ⟨m, HM⟩ : ∃ m, Hid (right ⟨6, b2, 0, 0, 0, b3, b4, 0, 0, 0, false, b0, b1⟩ = m) := ⟨_, Lib.hid rfl⟩
  have HNF : Hid (m = m ∧ b5 = 0 → nums (rd 6 ⟨b0, b1, b2, b3, b4, b5⟩) = ⟨b0, b1, b2, b3, b4, b5⟩) := Lib.hid (by rw [HRD.out]; rintro ⟨_, h5⟩; simp [nums, nz, *]) 
  clear hk hf
  go_enter Try.func15, Try.ntmps15
  go_wp2
  go_loop [8] (fun i => ∃ j : Nat, 5 ≤ j ∧ j ≤ 6 ∧ i = .int .i64 (j : Int) ∧ Hid (True ∧ (5 < j → b5 = 0))) (fun i => 6 - (intOf i).toNat)
  case atStart => exact ⟨5, by omega, by omega, rfl, Lib.hid (by simp)⟩
  case round =>
    obtain ⟨j, hj1, hj2, rfl, HZ⟩ := hrel
    have hc : j = 5 ∨ j = 6 := by omega
    clear hj1 hj2
    rcases hc with rfl | rfl
    · by_cases hb : b5 = 0
      · have hb1 : (b5 != 0) = false := by simp [hb]
        have hb2 : (b5 == 0) = true := by simp [hb]
        have HZ' : Hid (True ∧ (5 < 6 → b5 = 0)) := Lib.hid (by have := HZ.out; simp at this; simp; omega)
        clear hb HZ
        go_wp2
        go_round
        case rel => exact ⟨6, by omega, by omega, by go_num, HZ'⟩
        case measure => first | (simp [intOf]; done) | (simp [intOf]; omega)
      · have hu : u = (rz, 2) := by rw [← HU.out]; exact unp_no1 (by rw [HRD.out]; simp [nums, nz]; omega)
        have hb1 : (b5 != 0) = true := by simp [hb]
        have hb2 : (b5 == 0) = false := by simp [hb]
        subst hu
        clear hb HZ HU
        go_wp2
        exact bodyPost_ret (v := .tuple #[.agg #[.int .i64 0, .int .i64 0, .int .i64 0, .int .i64 0, .int .i64 0, .int .i64 0, .int .i64 0, .int .i64 0, .int .i64 0, .int .i64 0, .bool false, .int .i64 0, .int .i64 0], .bool false]) (by simp [results, Try.results15, go_sem]) rfl ⟨rfl, (((Below.refl _ _).alloc (Nat.le_refl _) _).alloc (by simp) _).alloc (by simp; omega) _⟩
    · have hz := HZ.out
      (try simp at hz)
      have hn : nums (rd 6 ⟨b0, b1, b2, b3, b4, b5⟩) = ⟨b0, b1, b2, b3, b4, b5⟩ := HNF.out (by simp; omega)
      clear hz HZ
      have HN := Lib.hid hn
      clear hn
      go_wp2_with fail
      refine Calls.mono (rright_is 6 b2 0 0 0 b3 b4 0 0 0 false b0 b1 HF.out HM.out _) ?_
      rintro e w1 ⟨rfl, hb⟩
      have HB : Hid (Below w.heap.size w w1) := Lib.hid (((((Below.refl _ _).alloc (Nat.le_refl _) _).alloc (by simp) _).alloc (by simp; omega) _ : Below w.heap.size w _).trans (hb.mono (by simp; omega)))
      have hx1 : w1.heap[w.heap.size + 1]? = some (.cells #[.int .i64 0, .int .i64 0, .int .i64 0, .int .i64 0, .int .i64 0, .int .i64 0, .int .i64 0, .int .i64 0, .int .i64 0, .int .i64 0, .bool false, .int .i64 0, .int .i64 0] 23 (0, 0)) := (hb.block _ (by simp)).trans ((Below.heap_alloc _ _ _ (by simp)).trans (by have := heap_alloc_new (w.alloc (.cells #[.int .i64 b0, .int .i64 b1, .int .i64 b2, .int .i64 b3, .int .i64 b4, .int .i64 b5] 24)) (.cells #[.int .i64 0, .int .i64 0, .int .i64 0, .int .i64 0, .int .i64 0, .int .i64 0, .int .i64 0, .int .i64 0, .int .i64 0, .int .i64 0, .bool false, .int .i64 0, .int .i64 0] 23); simpa using this))
      have hx2 : w1.heap[w.heap.size + 1 + 1]? = some (.cells #[.int .i64 6, .int .i64 b2, .int .i64 0, .int .i64 0, .int .i64 0, .int .i64 b3, .int .i64 b4, .int .i64 0, .int .i64 0, .int .i64 0, .bool false, .int .i64 b0, .int .i64 b1] 23 (0, 0)) := (hb.block _ (by simp)).trans (by have := heap_alloc_new ((w.alloc (.cells #[.int .i64 b0, .int .i64 b1, .int .i64 b2, .int .i64 b3, .int .i64 b4, .int .i64 b5] 24)).alloc (.cells #[.int .i64 0, .int .i64 0, .int .i64 0, .int .i64 0, .int .i64 0, .int .i64 0, .int .i64 0, .int .i64 0, .int .i64 0, .int .i64 0, .bool false, .int .i64 0, .int .i64 0] 23)) (.cells #[.int .i64 6, .int .i64 b2, .int .i64 0, .int .i64 0, .int .i64 0, .int .i64 b3, .int .i64 b4, .int .i64 0, .int .i64 0, .int .i64 0, .bool false, .int .i64 b0, .int .i64 b1] 23); simpa using this)
      have hwh : World.whole w1 (w.heap.size + 1) 13 23 := whole_of hx1 rfl
      obtain ⟨c0, c1, c2, c3, c4, c5, c6, c7, c8, c9, c10, c11, c12⟩ := cells13 hx2
      clear hb hx1 hx2
      rcases m with _ | _
      · have hu : u = (rz, 2) := by rw [← HU.out]; exact unp_no2 (by rw [HRD.out]; exact HM.out)
        subst hu
        clear HU
        go_wp2_with (refine wpList_store_whole 23 (.tmp 4) (.tmp 110) (w.heap.size + 1) 13 _ 23 (by rfl) (by rfl) hwh (by rfl) (by kernel_rfl) (by kernel_rfl) ?_)
        obtain ⟨v0, v1, v2, v3, v4, v5, v6, v7, v8, v9, v10, v11, v12⟩ := cells13 (setAll_self (vs := #[.int .i64 0, .int .i64 0, .int .i64 0, .int .i64 0, .int .i64 0, .int .i64 0, .int .i64 0, .int .i64 0, .int .i64 0, .int .i64 0, .bool false, .int .i64 0, .int .i64 0]) hwh rfl)
        exact bodyPost_ret (v := .tuple #[.agg #[.int .i64 0, .int .i64 0, .int .i64 0, .int .i64 0, .int .i64 0, .int .i64 0, .int .i64 0, .int .i64 0, .int .i64 0, .int .i64 0, .bool false, .int .i64 0, .int .i64 0], .bool false]) (by simp [results, Try.results15, go_sem, v0, v1, v2, v3, v4, v5, v6, v7, v8, v9, v10, v11, v12]) rfl ⟨rfl, setAll_below HB.out (by omega)⟩
      · have hu : u = (⟨6, b2, 0, 0, 0, b3, b4, 0, 0, 0, false, b0, b1⟩, 0) := by rw [← HU.out, unp_yes (by rw [HRD.out]; exact HM.out) HN.out, HRD.out]
        subst hu
        clear HU
        go_wp2_with (refine wpList_store_whole 23 (.tmp 4) (.tmp 111) (w.heap.size + 1) 13 _ 23 (by rfl) (by rfl) hwh (by rfl) (by kernel_rfl) (by kernel_rfl) ?_)
        obtain ⟨v0, v1, v2, v3, v4, v5, v6, v7, v8, v9, v10, v11, v12⟩ := cells13 (setAll_self (vs := #[.int .i64 6, .int .i64 b2, .int .i64 0, .int .i64 0, .int .i64 0, .int .i64 b3, .int .i64 b4, .int .i64 0, .int .i64 0, .int .i64 0, .bool false, .int .i64 b0, .int .i64 b1]) hwh rfl)
        exact bodyPost_ret (v := .tuple #[.agg #[.int .i64 6, .int .i64 b2, .int .i64 0, .int .i64 0, .int .i64 0, .int .i64 b3, .int .i64 b4, .int .i64 0, .int .i64 0, .int .i64 0, .bool false, .int .i64 b0, .int .i64 b1], .bool true]) (by simp [results, Try.results15, go_sem, v0, v1, v2, v3, v4, v5, v6, v7, v8, v9, v10, v11, v12]) rfl ⟨rfl, setAll_below HB.out (by omega)⟩

theorem runp_0 (k b0 b1 b2 b3 b4 b5 : Int) (hk : frame.inR k) (hf : (⟨b0, b1, b2, b3, b4, b5⟩ : Ns).fine) (h1 : (k == 1) = false) (h2 : (k == 2) = false) (h3 : (k == 3) = false) (h4 : (k == 4) = false) (h5 : (k == 5) = false) (h6 : (k == 6) = false) (g1 : k ≠ 1) (g2 : k ≠ 2) (g3 : k ≠ 3) (g4 : k ≠ 4) (g5 : k ≠ 5) (g6 : k ≠ 6) (w : World) : Calls Try.prog 15 #[.int .i64 k, .agg #[.int .i64 b0, .int .i64 b1, .int .i64 b2, .int .i64 b3, .int .i64 b4, .int .i64 b5]] w fun e w' => e = .returned (.tuple #[.agg (rc (unp k ⟨b0, b1, b2, b3, b4, b5⟩).1), .bool (decide ((unp k ⟨b0, b1, b2, b3, b4, b5⟩).2 = 0))]) ∧ Below w.heap.size w w' := by
  obtain ⟨u, HU⟩ : ∃ u, Hid (unp k ⟨b0, b1, b2, b3, b4, b5⟩ = u) := ⟨_, Lib.hid rfl⟩
  rw [HU.out]
  have HRD : Hid (rd k ⟨b0, b1, b2, b3, b4, b5⟩ = ⟨k, 0, 0, 0, 0, 0, 0, 0, 0, 0, false, 0, 0⟩) := Lib.hid (by simp [rd, *])
  have HF := Lib.hid (rd_fine hk hf)
  rw [HRD.out] at HF
  have HM : Hid (right ⟨k, 0, 0, 0, 0, 0, 0, 0, 0, 0, false, 0, 0⟩ = false) := Lib.hid (by simp [right, may, *])
  clear g1 g2 g3 g4 g5 g6
  clear hk hf
  go_enter Try.func15, Try.ntmps15
  go_wp2
  go_loop [8] (fun i => ∃ j : Nat, 6 ≤ j ∧ j ≤ 6 ∧ i = .int .i64 (j : Int) ∧ Hid (True)) (fun i => 6 - (intOf i).toNat)
  case atStart => exact ⟨6, by omega, by omega, rfl, Lib.hid (by simp)⟩
  case round =>
    obtain ⟨j, hj1, hj2, rfl, HZ⟩ := hrel
    have hc : j = 6 := by omega
    clear hj1 hj2
    rcases hc with rfl
    · go_wp2_with fail
      refine Calls.mono (rright_is k 0 0 0 0 0 0 0 0 0 false 0 0 HF.out HM.out _) ?_
      rintro e w1 ⟨rfl, hb⟩
      have HB : Hid (Below w.heap.size w w1) := Lib.hid (((((Below.refl _ _).alloc (Nat.le_refl _) _).alloc (by simp) _).alloc (by simp; omega) _ : Below w.heap.size w _).trans (hb.mono (by simp; omega)))
      have hx1 : w1.heap[w.heap.size + 1]? = some (.cells #[.int .i64 0, .int .i64 0, .int .i64 0, .int .i64 0, .int .i64 0, .int .i64 0, .int .i64 0, .int .i64 0, .int .i64 0, .int .i64 0, .bool false, .int .i64 0, .int .i64 0] 23 (0, 0)) := (hb.block _ (by simp)).trans ((Below.heap_alloc _ _ _ (by simp)).trans (by have := heap_alloc_new (w.alloc (.cells #[.int .i64 b0, .int .i64 b1, .int .i64 b2, .int .i64 b3, .int .i64 b4, .int .i64 b5] 24)) (.cells #[.int .i64 0, .int .i64 0, .int .i64 0, .int .i64 0, .int .i64 0, .int .i64 0, .int .i64 0, .int .i64 0, .int .i64 0, .int .i64 0, .bool false, .int .i64 0, .int .i64 0] 23); simpa using this))
      have hx2 : w1.heap[w.heap.size + 1 + 1]? = some (.cells #[.int .i64 k, .int .i64 0, .int .i64 0, .int .i64 0, .int .i64 0, .int .i64 0, .int .i64 0, .int .i64 0, .int .i64 0, .int .i64 0, .bool false, .int .i64 0, .int .i64 0] 23 (0, 0)) := (hb.block _ (by simp)).trans (by have := heap_alloc_new ((w.alloc (.cells #[.int .i64 b0, .int .i64 b1, .int .i64 b2, .int .i64 b3, .int .i64 b4, .int .i64 b5] 24)).alloc (.cells #[.int .i64 0, .int .i64 0, .int .i64 0, .int .i64 0, .int .i64 0, .int .i64 0, .int .i64 0, .int .i64 0, .int .i64 0, .int .i64 0, .bool false, .int .i64 0, .int .i64 0] 23)) (.cells #[.int .i64 k, .int .i64 0, .int .i64 0, .int .i64 0, .int .i64 0, .int .i64 0, .int .i64 0, .int .i64 0, .int .i64 0, .int .i64 0, .bool false, .int .i64 0, .int .i64 0] 23); simpa using this)
      have hwh : World.whole w1 (w.heap.size + 1) 13 23 := whole_of hx1 rfl
      obtain ⟨c0, c1, c2, c3, c4, c5, c6, c7, c8, c9, c10, c11, c12⟩ := cells13 hx2
      clear hb hx1 hx2
      have hu : u = (rz, 2) := by rw [← HU.out]; exact unp_no2 (by rw [HRD.out]; exact HM.out)
      subst hu
      clear HU
      go_wp2_with (refine wpList_store_whole 23 (.tmp 4) (.tmp 110) (w.heap.size + 1) 13 _ 23 (by rfl) (by rfl) hwh (by rfl) (by kernel_rfl) (by kernel_rfl) ?_)
      obtain ⟨v0, v1, v2, v3, v4, v5, v6, v7, v8, v9, v10, v11, v12⟩ := cells13 (setAll_self (vs := #[.int .i64 0, .int .i64 0, .int .i64 0, .int .i64 0, .int .i64 0, .int .i64 0, .int .i64 0, .int .i64 0, .int .i64 0, .int .i64 0, .bool false, .int .i64 0, .int .i64 0]) hwh rfl)
      exact bodyPost_ret (v := .tuple #[.agg #[.int .i64 0, .int .i64 0, .int .i64 0, .int .i64 0, .int .i64 0, .int .i64 0, .int .i64 0, .int .i64 0, .int .i64 0, .int .i64 0, .bool false, .int .i64 0, .int .i64 0], .bool false]) (by simp [results, Try.results15, go_sem, v0, v1, v2, v3, v4, v5, v6, v7, v8, v9, v10, v11, v12]) rfl ⟨rfl, setAll_below HB.out (by omega)⟩

theorem runp_is (k0 b0 b1 b2 b3 b4 b5 : Int) {k o a y d q p l s n : Int} {on : Bool} {z t : Int} {e : Int} (hk : frame.inR k0) (hf : (⟨b0, b1, b2, b3, b4, b5⟩ : Ns).fine) (h : unp k0 ⟨b0, b1, b2, b3, b4, b5⟩ = (⟨k, o, a, y, d, q, p, l, s, n, on, z, t⟩, e)) (w : World) : Calls Try.prog 15 #[.int .i64 k0, .agg #[.int .i64 b0, .int .i64 b1, .int .i64 b2, .int .i64 b3, .int .i64 b4, .int .i64 b5]] w fun e' w' => e' = .returned (.tuple #[.agg #[.int .i64 k, .int .i64 o, .int .i64 a, .int .i64 y, .int .i64 d, .int .i64 q, .int .i64 p, .int .i64 l, .int .i64 s, .int .i64 n, .bool on, .int .i64 z, .int .i64 t], .bool (decide (e = 0))]) ∧ Below w.heap.size w w' := by
  have key : Calls Try.prog 15 #[.int .i64 k0, .agg #[.int .i64 b0, .int .i64 b1, .int .i64 b2, .int .i64 b3, .int .i64 b4, .int .i64 b5]] w fun e w' => e = .returned (.tuple #[.agg (rc (unp k0 ⟨b0, b1, b2, b3, b4, b5⟩).1), .bool (decide ((unp k0 ⟨b0, b1, b2, b3, b4, b5⟩).2 = 0))]) ∧ Below w.heap.size w w' := by
    clear h
    by_cases h1 : k0 = 1
    · subst h1; exact runp_1 b0 b1 b2 b3 b4 b5 hk hf w
    by_cases h2 : k0 = 2
    · subst h2; exact runp_2 b0 b1 b2 b3 b4 b5 hk hf w
    by_cases h3 : k0 = 3
    · subst h3; exact runp_3 b0 b1 b2 b3 b4 b5 hk hf w
    by_cases h4 : k0 = 4
    · subst h4; exact runp_4 b0 b1 b2 b3 b4 b5 hk hf w
    by_cases h5 : k0 = 5
    · subst h5
      by_cases g0 : b0 = 0
      · subst g0; exact runp_5z b1 b2 b3 b4 b5 hk hf w
      by_cases g1 : b0 = 1
      · subst g1; exact runp_5o b1 b2 b3 b4 b5 hk hf w
      exact runp_5x b0 b1 b2 b3 b4 b5 hk hf (by simpa using g0) (by simpa using g1) w
    by_cases h6 : k0 = 6
    · subst h6; exact runp_6 b0 b1 b2 b3 b4 b5 hk hf w
    exact runp_0 k0 b0 b1 b2 b3 b4 b5 hk hf (by simpa using h1) (by simpa using h2) (by simpa using h3) (by simpa using h4) (by simpa using h5) (by simpa using h6) h1 h2 h3 h4 h5 h6 w
  rw [h] at key
  exact key

end Go.Proofs.Ytbahlgijiglbdaa.rec
