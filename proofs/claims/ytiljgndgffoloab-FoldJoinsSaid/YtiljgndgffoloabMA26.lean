/-
  RecImpl4
-/
import Derived.Test.YtiljgndgffoloabMA20
namespace Go.Proofs.Ytiljgndgffoloab.rec
open Go.RowKit Go.Proofs.Ytiljgndgffoloab
set_option linter.unusedVariables false
set_option linter.unusedSimpArgs false

theorem may_1 (o a y d q p l s n : Int) (on : Bool) (z t : Int) {b : Bool} (h : may ⟨1, o, a, y, d, q, p, l, s, n, on, z, t⟩ = b) (w : World) : Calls Try.prog 58 #[.agg #[.int .i64 1, .int .i64 o, .int .i64 a, .int .i64 y, .int .i64 d, .int .i64 q, .int .i64 p, .int .i64 l, .int .i64 s, .int .i64 n, .bool on, .int .i64 z, .int .i64 t]] w fun e w' => e = .returned (.bool b) ∧ Below w.heap.size w w' := by
  obtain ⟨W0, HW0⟩ : ∃ W, Hid ((w.alloc (.cells #[.int .i64 1, .int .i64 o, .int .i64 a, .int .i64 y, .int .i64 d, .int .i64 q, .int .i64 p, .int .i64 l, .int .i64 s, .int .i64 n, .bool on, .int .i64 z, .int .i64 t] 37)) = W) := ⟨_, Lib.hid rfl⟩
  have HBW : Hid (Below w.heap.size w W0) := Lib.hid (by rw [← HW0.out]; exact (Below.refl _ _).alloc (by simp) _)
  have HX0 : Hid (∀ W, Below W0.heap.size W0 W → W.heap[w.heap.size]? = some (.cells #[.int .i64 1, .int .i64 o, .int .i64 a, .int .i64 y, .int .i64 d, .int .i64 q, .int .i64 p, .int .i64 l, .int .i64 s, .int .i64 n, .bool on, .int .i64 z, .int .i64 t] 37 (0, 0))) := Lib.hid (fun W hb => (hb.block _ (by rw [← HW0.out]; simp; try omega)).trans (by rw [← HW0.out]; have := heap_alloc_new w (.cells #[.int .i64 1, .int .i64 o, .int .i64 a, .int .i64 y, .int .i64 d, .int .i64 q, .int .i64 p, .int .i64 l, .int .i64 s, .int .i64 n, .bool on, .int .i64 z, .int .i64 t] 37); exact this))
  have HP : Hid ((mayOrder o && mayAcc a && mayAcc y && decide (d = 1 ∨ d = 2) && mayAsk q p) = b) := Lib.hid (by rw [← h]; rfl)
  clear h
  obtain ⟨b1, H1⟩ : ∃ x, Hid (mayOrder o = x) := ⟨_, Lib.hid rfl⟩
  obtain ⟨b2, H2⟩ : ∃ x, Hid (mayAcc a = x) := ⟨_, Lib.hid rfl⟩
  obtain ⟨b3, H3⟩ : ∃ x, Hid (mayAcc y = x) := ⟨_, Lib.hid rfl⟩
  obtain ⟨b4, H4⟩ : ∃ x, Hid (mayAsk q p = x) := ⟨_, Lib.hid rfl⟩
  go_enter Try.func58, Try.ntmps58
  go_wp2_with fail
  refine Calls.mono (ord_is 1 o a y d q p l s n on z t H1.out _) ?_
  rintro e w1 ⟨rfl, hb⟩
  rw [HW0.out] at hb
  have HB1 : Hid (Below W0.heap.size W0 w1) := Lib.hid hb
  clear hb
  rcases b1 with _ | _
  · obtain ⟨c0, c1, c2, c3, c4, c5, c6, c7, c8, c9, c10, c11, c12⟩ := cells13 (HX0.out w1 HB1.out)
    have hv : b = false := by rw [← HP.out]; (try simp [H1.out])
    subst hv
    go_wp2_with fail
    go_ret
    exact ⟨retB (by first | rfl | simp), HBW.out.trans (HB1.out.mono HBW.out.size)⟩
  · obtain ⟨c0, c1, c2, c3, c4, c5, c6, c7, c8, c9, c10, c11, c12⟩ := cells13 (HX0.out w1 HB1.out)
    go_wp2_with fail
    refine Calls.mono (acc_is 1 o a y d q p l s n on z t H2.out _) ?_
    rintro e w2 ⟨rfl, hb⟩
    have HB2 : Hid (Below W0.heap.size W0 w2) := Lib.hid (HB1.out.trans (hb.mono HB1.out.size))
    clear hb c0 c1 c2 c3 c4 c5 c6 c7 c8 c9 c10 c11 c12
    rcases b2 with _ | _
    · obtain ⟨c0, c1, c2, c3, c4, c5, c6, c7, c8, c9, c10, c11, c12⟩ := cells13 (HX0.out w2 HB2.out)
      have hv : b = false := by rw [← HP.out]; (try simp [H1.out, H2.out])
      subst hv
      go_wp2_with fail
      go_ret
      exact ⟨retB (by first | rfl | simp), HBW.out.trans (HB2.out.mono HBW.out.size)⟩
    · obtain ⟨c0, c1, c2, c3, c4, c5, c6, c7, c8, c9, c10, c11, c12⟩ := cells13 (HX0.out w2 HB2.out)
      go_wp2_with fail
      refine Calls.mono (sym_is 1 o a y d q p l s n on z t H3.out _) ?_
      rintro e w3 ⟨rfl, hb⟩
      have HB3 : Hid (Below W0.heap.size W0 w3) := Lib.hid (HB2.out.trans (hb.mono HB2.out.size))
      clear hb c0 c1 c2 c3 c4 c5 c6 c7 c8 c9 c10 c11 c12
      rcases b3 with _ | _
      · obtain ⟨c0, c1, c2, c3, c4, c5, c6, c7, c8, c9, c10, c11, c12⟩ := cells13 (HX0.out w3 HB3.out)
        have hv : b = false := by rw [← HP.out]; (try simp [H1.out, H2.out, H3.out])
        subst hv
        go_wp2_with fail
        go_ret
        exact ⟨retB (by first | rfl | simp), HBW.out.trans (HB3.out.mono HBW.out.size)⟩
      · obtain ⟨c0, c1, c2, c3, c4, c5, c6, c7, c8, c9, c10, c11, c12⟩ := cells13 (HX0.out w3 HB3.out)
        have hdc : d = 1 ∨ ((d == 1) = false ∧ d = 2) ∨ ((d == 1) = false ∧ (d == 2) = false ∧ Hid (decide (d = 1 ∨ d = 2) = false)) := by
          rcases Classical.em (d = 1) with h | h
          · exact .inl h
          · rcases Classical.em (d = 2) with h' | h'
            · exact .inr (.inl ⟨by simpa using h, h'⟩)
            · exact .inr (.inr ⟨by simpa using h, by simpa using h', Lib.hid (decide_eq_false (by omega))⟩)
        rcases hdc with rfl | ⟨_, rfl⟩ | ⟨hd1, hd2, HD⟩
        · go_wp2_with fail
          refine Calls.mono (ask_is 1 o a y 1 q p l s n on z t H4.out _) ?_
          rintro e w4 ⟨rfl, hb⟩
          have HB4 : Hid (Below W0.heap.size W0 w4) := Lib.hid (HB3.out.trans (hb.mono HB3.out.size))
          clear hb c0 c1 c2 c3 c4 c5 c6 c7 c8 c9 c10 c11 c12
          have hv : b = b4 := by rw [← HP.out]; (try simp [H1.out, H2.out, H3.out, H4.out])
          subst hv
          go_wp2_with fail
          go_ret
          exact ⟨retB (by first | rfl | simp), HBW.out.trans (HB4.out.mono HBW.out.size)⟩
        · go_wp2_with fail
          refine Calls.mono (ask_is 1 o a y 2 q p l s n on z t H4.out _) ?_
          rintro e w4 ⟨rfl, hb⟩
          have HB4 : Hid (Below W0.heap.size W0 w4) := Lib.hid (HB3.out.trans (hb.mono HB3.out.size))
          clear hb c0 c1 c2 c3 c4 c5 c6 c7 c8 c9 c10 c11 c12
          have hv : b = b4 := by rw [← HP.out]; (try simp [H1.out, H2.out, H3.out, H4.out])
          subst hv
          go_wp2_with fail
          go_ret
          exact ⟨retB (by first | rfl | simp), HBW.out.trans (HB4.out.mono HBW.out.size)⟩
        · have hv : b = false := by rw [← HP.out]; (try simp [H1.out, H2.out, H3.out, HD.out])
          subst hv
          go_wp2_with fail
          go_ret
          exact ⟨retB (by first | rfl | simp), HBW.out.trans (HB3.out.mono HBW.out.size)⟩

theorem may_2 (o a y d q p l s n : Int) (on : Bool) (z t : Int) {b : Bool} (h : may ⟨2, o, a, y, d, q, p, l, s, n, on, z, t⟩ = b) (w : World) : Calls Try.prog 58 #[.agg #[.int .i64 2, .int .i64 o, .int .i64 a, .int .i64 y, .int .i64 d, .int .i64 q, .int .i64 p, .int .i64 l, .int .i64 s, .int .i64 n, .bool on, .int .i64 z, .int .i64 t]] w fun e w' => e = .returned (.bool b) ∧ Below w.heap.size w w' := by
  obtain ⟨W0, HW0⟩ : ∃ W, Hid ((w.alloc (.cells #[.int .i64 2, .int .i64 o, .int .i64 a, .int .i64 y, .int .i64 d, .int .i64 q, .int .i64 p, .int .i64 l, .int .i64 s, .int .i64 n, .bool on, .int .i64 z, .int .i64 t] 37)) = W) := ⟨_, Lib.hid rfl⟩
  have HBW : Hid (Below w.heap.size w W0) := Lib.hid (by rw [← HW0.out]; exact (Below.refl _ _).alloc (by simp) _)
  have HX0 : Hid (∀ W, Below W0.heap.size W0 W → W.heap[w.heap.size]? = some (.cells #[.int .i64 2, .int .i64 o, .int .i64 a, .int .i64 y, .int .i64 d, .int .i64 q, .int .i64 p, .int .i64 l, .int .i64 s, .int .i64 n, .bool on, .int .i64 z, .int .i64 t] 37 (0, 0))) := Lib.hid (fun W hb => (hb.block _ (by rw [← HW0.out]; simp; try omega)).trans (by rw [← HW0.out]; have := heap_alloc_new w (.cells #[.int .i64 2, .int .i64 o, .int .i64 a, .int .i64 y, .int .i64 d, .int .i64 q, .int .i64 p, .int .i64 l, .int .i64 s, .int .i64 n, .bool on, .int .i64 z, .int .i64 t] 37); exact this))
  have HP : Hid ((mayOrder o && mayAsk q p) = b) := Lib.hid (by rw [← h]; rfl)
  clear h
  obtain ⟨b1, H1⟩ : ∃ x, Hid (mayOrder o = x) := ⟨_, Lib.hid rfl⟩
  obtain ⟨b2, H2⟩ : ∃ x, Hid (mayAsk q p = x) := ⟨_, Lib.hid rfl⟩
  go_enter Try.func58, Try.ntmps58
  go_wp2_with fail
  refine Calls.mono (ord_is 2 o a y d q p l s n on z t H1.out _) ?_
  rintro e w1 ⟨rfl, hb⟩
  rw [HW0.out] at hb
  have HB1 : Hid (Below W0.heap.size W0 w1) := Lib.hid hb
  clear hb
  rcases b1 with _ | _
  · obtain ⟨c0, c1, c2, c3, c4, c5, c6, c7, c8, c9, c10, c11, c12⟩ := cells13 (HX0.out w1 HB1.out)
    have hv : b = false := by rw [← HP.out]; (try simp [H1.out])
    subst hv
    go_wp2_with fail
    go_ret
    exact ⟨retB (by first | rfl | simp), HBW.out.trans (HB1.out.mono HBW.out.size)⟩
  · obtain ⟨c0, c1, c2, c3, c4, c5, c6, c7, c8, c9, c10, c11, c12⟩ := cells13 (HX0.out w1 HB1.out)
    go_wp2_with fail
    refine Calls.mono (ask_is 2 o a y d q p l s n on z t H2.out _) ?_
    rintro e w2 ⟨rfl, hb⟩
    have HB2 : Hid (Below W0.heap.size W0 w2) := Lib.hid (HB1.out.trans (hb.mono HB1.out.size))
    clear hb c0 c1 c2 c3 c4 c5 c6 c7 c8 c9 c10 c11 c12
    have hv : b = b2 := by rw [← HP.out]; (try simp [H1.out, H2.out])
    subst hv
    go_wp2_with fail
    go_ret
    exact ⟨retB (by first | rfl | simp), HBW.out.trans (HB2.out.mono HBW.out.size)⟩

theorem may_3 (o a y d q p l s n : Int) (on : Bool) (z t : Int) {b : Bool} (h : may ⟨3, o, a, y, d, q, p, l, s, n, on, z, t⟩ = b) (w : World) : Calls Try.prog 58 #[.agg #[.int .i64 3, .int .i64 o, .int .i64 a, .int .i64 y, .int .i64 d, .int .i64 q, .int .i64 p, .int .i64 l, .int .i64 s, .int .i64 n, .bool on, .int .i64 z, .int .i64 t]] w fun e w' => e = .returned (.bool b) ∧ Below w.heap.size w w' := by
  obtain ⟨W0, HW0⟩ : ∃ W, Hid ((w.alloc (.cells #[.int .i64 3, .int .i64 o, .int .i64 a, .int .i64 y, .int .i64 d, .int .i64 q, .int .i64 p, .int .i64 l, .int .i64 s, .int .i64 n, .bool on, .int .i64 z, .int .i64 t] 37)) = W) := ⟨_, Lib.hid rfl⟩
  have HBW : Hid (Below w.heap.size w W0) := Lib.hid (by rw [← HW0.out]; exact (Below.refl _ _).alloc (by simp) _)
  have HX0 : Hid (∀ W, Below W0.heap.size W0 W → W.heap[w.heap.size]? = some (.cells #[.int .i64 3, .int .i64 o, .int .i64 a, .int .i64 y, .int .i64 d, .int .i64 q, .int .i64 p, .int .i64 l, .int .i64 s, .int .i64 n, .bool on, .int .i64 z, .int .i64 t] 37 (0, 0))) := Lib.hid (fun W hb => (hb.block _ (by rw [← HW0.out]; simp; try omega)).trans (by rw [← HW0.out]; have := heap_alloc_new w (.cells #[.int .i64 3, .int .i64 o, .int .i64 a, .int .i64 y, .int .i64 d, .int .i64 q, .int .i64 p, .int .i64 l, .int .i64 s, .int .i64 n, .bool on, .int .i64 z, .int .i64 t] 37); exact this))
  have HP : Hid (mayOrder o = b) := Lib.hid (by rw [← h]; rfl)
  clear h
  obtain ⟨b1, H1⟩ : ∃ x, Hid (mayOrder o = x) := ⟨_, Lib.hid rfl⟩
  go_enter Try.func58, Try.ntmps58
  go_wp2_with fail
  refine Calls.mono (ord_is 3 o a y d q p l s n on z t H1.out _) ?_
  rintro e w1 ⟨rfl, hb⟩
  rw [HW0.out] at hb
  have HB1 : Hid (Below W0.heap.size W0 w1) := Lib.hid hb
  clear hb
  have hv : b = b1 := by rw [← HP.out]; (try simp [H1.out])
  subst hv
  go_wp2_with fail
  go_ret
  exact ⟨retB (by first | rfl | simp), HBW.out.trans (HB1.out.mono HBW.out.size)⟩

theorem may_4 (o a y d q p l s n : Int) (on : Bool) (z t : Int) {b : Bool} (h : may ⟨4, o, a, y, d, q, p, l, s, n, on, z, t⟩ = b) (w : World) : Calls Try.prog 58 #[.agg #[.int .i64 4, .int .i64 o, .int .i64 a, .int .i64 y, .int .i64 d, .int .i64 q, .int .i64 p, .int .i64 l, .int .i64 s, .int .i64 n, .bool on, .int .i64 z, .int .i64 t]] w fun e w' => e = .returned (.bool b) ∧ Below w.heap.size w w' := by
  obtain ⟨W0, HW0⟩ : ∃ W, Hid ((w.alloc (.cells #[.int .i64 4, .int .i64 o, .int .i64 a, .int .i64 y, .int .i64 d, .int .i64 q, .int .i64 p, .int .i64 l, .int .i64 s, .int .i64 n, .bool on, .int .i64 z, .int .i64 t] 37)) = W) := ⟨_, Lib.hid rfl⟩
  have HBW : Hid (Below w.heap.size w W0) := Lib.hid (by rw [← HW0.out]; exact (Below.refl _ _).alloc (by simp) _)
  have HX0 : Hid (∀ W, Below W0.heap.size W0 W → W.heap[w.heap.size]? = some (.cells #[.int .i64 4, .int .i64 o, .int .i64 a, .int .i64 y, .int .i64 d, .int .i64 q, .int .i64 p, .int .i64 l, .int .i64 s, .int .i64 n, .bool on, .int .i64 z, .int .i64 t] 37 (0, 0))) := Lib.hid (fun W hb => (hb.block _ (by rw [← HW0.out]; simp; try omega)).trans (by rw [← HW0.out]; have := heap_alloc_new w (.cells #[.int .i64 4, .int .i64 o, .int .i64 a, .int .i64 y, .int .i64 d, .int .i64 q, .int .i64 p, .int .i64 l, .int .i64 s, .int .i64 n, .bool on, .int .i64 z, .int .i64 t] 37); exact this))
  have HP : Hid ((mayAcc a && mayBound y l s n) = b) := Lib.hid (by rw [← h]; rfl)
  clear h
  obtain ⟨b1, H1⟩ : ∃ x, Hid (mayAcc a = x) := ⟨_, Lib.hid rfl⟩
  obtain ⟨b2, H2⟩ : ∃ x, Hid (mayBound y l s n = x) := ⟨_, Lib.hid rfl⟩
  go_enter Try.func58, Try.ntmps58
  go_wp2_with fail
  refine Calls.mono (acc_is 4 o a y d q p l s n on z t H1.out _) ?_
  rintro e w1 ⟨rfl, hb⟩
  rw [HW0.out] at hb
  have HB1 : Hid (Below W0.heap.size W0 w1) := Lib.hid hb
  clear hb
  rcases b1 with _ | _
  · obtain ⟨c0, c1, c2, c3, c4, c5, c6, c7, c8, c9, c10, c11, c12⟩ := cells13 (HX0.out w1 HB1.out)
    have hv : b = false := by rw [← HP.out]; (try simp [H1.out])
    subst hv
    go_wp2_with fail
    go_ret
    exact ⟨retB (by first | rfl | simp), HBW.out.trans (HB1.out.mono HBW.out.size)⟩
  · obtain ⟨c0, c1, c2, c3, c4, c5, c6, c7, c8, c9, c10, c11, c12⟩ := cells13 (HX0.out w1 HB1.out)
    go_wp2_with fail
    refine Calls.mono (bound_is 4 o a y d q p l s n on z t H2.out _) ?_
    rintro e w2 ⟨rfl, hb⟩
    have HB2 : Hid (Below W0.heap.size W0 w2) := Lib.hid (HB1.out.trans (hb.mono HB1.out.size))
    clear hb c0 c1 c2 c3 c4 c5 c6 c7 c8 c9 c10 c11 c12
    have hv : b = b2 := by rw [← HP.out]; (try simp [H1.out, H2.out])
    subst hv
    go_wp2_with fail
    go_ret
    exact ⟨retB (by first | rfl | simp), HBW.out.trans (HB2.out.mono HBW.out.size)⟩

theorem may_5 (o a y d q p l s n : Int) (on : Bool) (z t : Int) {b : Bool} (h : may ⟨5, o, a, y, d, q, p, l, s, n, on, z, t⟩ = b) (w : World) : Calls Try.prog 58 #[.agg #[.int .i64 5, .int .i64 o, .int .i64 a, .int .i64 y, .int .i64 d, .int .i64 q, .int .i64 p, .int .i64 l, .int .i64 s, .int .i64 n, .bool on, .int .i64 z, .int .i64 t]] w fun e w' => e = .returned (.bool b) ∧ Below w.heap.size w w' := by
  obtain ⟨W0, HW0⟩ : ∃ W, Hid ((w.alloc (.cells #[.int .i64 5, .int .i64 o, .int .i64 a, .int .i64 y, .int .i64 d, .int .i64 q, .int .i64 p, .int .i64 l, .int .i64 s, .int .i64 n, .bool on, .int .i64 z, .int .i64 t] 37)) = W) := ⟨_, Lib.hid rfl⟩
  have HBW : Hid (Below w.heap.size w W0) := Lib.hid (by rw [← HW0.out]; exact (Below.refl _ _).alloc (by simp) _)
  have HX0 : Hid (∀ W, Below W0.heap.size W0 W → W.heap[w.heap.size]? = some (.cells #[.int .i64 5, .int .i64 o, .int .i64 a, .int .i64 y, .int .i64 d, .int .i64 q, .int .i64 p, .int .i64 l, .int .i64 s, .int .i64 n, .bool on, .int .i64 z, .int .i64 t] 37 (0, 0))) := Lib.hid (fun W hb => (hb.block _ (by rw [← HW0.out]; simp; try omega)).trans (by rw [← HW0.out]; have := heap_alloc_new w (.cells #[.int .i64 5, .int .i64 o, .int .i64 a, .int .i64 y, .int .i64 d, .int .i64 q, .int .i64 p, .int .i64 l, .int .i64 s, .int .i64 n, .bool on, .int .i64 z, .int .i64 t] 37); exact this))
  have HP : Hid (true = b) := Lib.hid (by rw [← h]; rfl)
  clear h
  go_enter Try.func58, Try.ntmps58
  have hv : b = true := by rw [← HP.out]; (try simp [])
  subst hv
  go_wp2_with fail
  go_ret
  exact ⟨retB (by first | rfl | simp), by rw [HW0.out]; exact HBW.out⟩

theorem may_6 (o a y d q p l s n : Int) (on : Bool) (z t : Int) {b : Bool} (h : may ⟨6, o, a, y, d, q, p, l, s, n, on, z, t⟩ = b) (w : World) : Calls Try.prog 58 #[.agg #[.int .i64 6, .int .i64 o, .int .i64 a, .int .i64 y, .int .i64 d, .int .i64 q, .int .i64 p, .int .i64 l, .int .i64 s, .int .i64 n, .bool on, .int .i64 z, .int .i64 t]] w fun e w' => e = .returned (.bool b) ∧ Below w.heap.size w w' := by
  obtain ⟨W0, HW0⟩ : ∃ W, Hid ((w.alloc (.cells #[.int .i64 6, .int .i64 o, .int .i64 a, .int .i64 y, .int .i64 d, .int .i64 q, .int .i64 p, .int .i64 l, .int .i64 s, .int .i64 n, .bool on, .int .i64 z, .int .i64 t] 37)) = W) := ⟨_, Lib.hid rfl⟩
  have HBW : Hid (Below w.heap.size w W0) := Lib.hid (by rw [← HW0.out]; exact (Below.refl _ _).alloc (by simp) _)
  have HX0 : Hid (∀ W, Below W0.heap.size W0 W → W.heap[w.heap.size]? = some (.cells #[.int .i64 6, .int .i64 o, .int .i64 a, .int .i64 y, .int .i64 d, .int .i64 q, .int .i64 p, .int .i64 l, .int .i64 s, .int .i64 n, .bool on, .int .i64 z, .int .i64 t] 37 (0, 0))) := Lib.hid (fun W hb => (hb.block _ (by rw [← HW0.out]; simp; try omega)).trans (by rw [← HW0.out]; have := heap_alloc_new w (.cells #[.int .i64 6, .int .i64 o, .int .i64 a, .int .i64 y, .int .i64 d, .int .i64 q, .int .i64 p, .int .i64 l, .int .i64 s, .int .i64 n, .bool on, .int .i64 z, .int .i64 t] 37); exact this))
  have HP : Hid ((decide (1 ≤ z ∧ z ≤ 1000000000) && mayOrder o && mayTell t q p) = b) := Lib.hid (by rw [← h]; rfl)
  clear h
  obtain ⟨b1, H1⟩ : ∃ x, Hid (mayOrder o = x) := ⟨_, Lib.hid rfl⟩
  obtain ⟨b2, H2⟩ : ∃ x, Hid (mayTell t q p = x) := ⟨_, Lib.hid rfl⟩
  have hz : (z < 1 ∧ Hid (decide (1 ≤ z ∧ z ≤ 1000000000) = false)) ∨ (1 ≤ z ∧ 1000000000 < z ∧ Hid (decide (1 ≤ z ∧ z ≤ 1000000000) = false)) ∨ (1 ≤ z ∧ z ≤ 1000000000 ∧ Hid (decide (1 ≤ z ∧ z ≤ 1000000000) = true)) := by
    by_cases h1 : z < 1
    · exact .inl ⟨h1, Lib.hid (decide_eq_false (by omega))⟩
    by_cases h2 : 1000000000 < z
    · exact .inr (.inl ⟨by omega, h2, Lib.hid (decide_eq_false (by omega))⟩)
    · exact .inr (.inr ⟨by omega, by omega, Lib.hid (decide_eq_true (by omega))⟩)
  rcases hz with ⟨hz1, HZ⟩ | ⟨hz1, hz2, HZ⟩ | ⟨hz1, hz2, HZ⟩
  · go_enter Try.func58, Try.ntmps58
    have hv : b = false := by rw [← HP.out]; (try simp [HZ.out])
    subst hv
    go_wp2_with fail
    go_ret
    exact ⟨retB (by first | rfl | simp), by rw [HW0.out]; exact HBW.out⟩
  · go_enter Try.func58, Try.ntmps58
    have hv : b = false := by rw [← HP.out]; (try simp [HZ.out])
    subst hv
    go_wp2_with fail
    go_ret
    exact ⟨retB (by first | rfl | simp), by rw [HW0.out]; exact HBW.out⟩
  · go_enter Try.func58, Try.ntmps58
    go_wp2_with fail
    refine Calls.mono (ord_is 6 o a y d q p l s n on z t H1.out _) ?_
    rintro e w1 ⟨rfl, hb⟩
    rw [HW0.out] at hb
    have HB1 : Hid (Below W0.heap.size W0 w1) := Lib.hid hb
    clear hb
    rcases b1 with _ | _
    · obtain ⟨c0, c1, c2, c3, c4, c5, c6, c7, c8, c9, c10, c11, c12⟩ := cells13 (HX0.out w1 HB1.out)
      have hv : b = false := by rw [← HP.out]; (try simp [HZ.out, H1.out])
      subst hv
      go_wp2_with fail
      go_ret
      exact ⟨retB (by first | rfl | simp), HBW.out.trans (HB1.out.mono HBW.out.size)⟩
    · obtain ⟨c0, c1, c2, c3, c4, c5, c6, c7, c8, c9, c10, c11, c12⟩ := cells13 (HX0.out w1 HB1.out)
      go_wp2_with fail
      refine Calls.mono (tell_is 6 o a y d q p l s n on z t H2.out _) ?_
      rintro e w2 ⟨rfl, hb⟩
      have HB2 : Hid (Below W0.heap.size W0 w2) := Lib.hid (HB1.out.trans (hb.mono HB1.out.size))
      clear hb c0 c1 c2 c3 c4 c5 c6 c7 c8 c9 c10 c11 c12
      have hv : b = b2 := by rw [← HP.out]; (try simp [HZ.out, H1.out, H2.out])
      subst hv
      go_wp2_with fail
      go_ret
      exact ⟨retB (by first | rfl | simp), HBW.out.trans (HB2.out.mono HBW.out.size)⟩

theorem may_0 (k o a y d q p l s n : Int) (on : Bool) (z t : Int) (h1 : (k == 1) = false) (h2 : (k == 2) = false) (h3 : (k == 3) = false) (h4 : (k == 4) = false) (h5 : (k == 5) = false) (h6 : (k == 6) = false) {b : Bool} (h : may ⟨k, o, a, y, d, q, p, l, s, n, on, z, t⟩ = b) (w : World) : Calls Try.prog 58 #[.agg #[.int .i64 k, .int .i64 o, .int .i64 a, .int .i64 y, .int .i64 d, .int .i64 q, .int .i64 p, .int .i64 l, .int .i64 s, .int .i64 n, .bool on, .int .i64 z, .int .i64 t]] w fun e w' => e = .returned (.bool b) ∧ Below w.heap.size w w' := by
  obtain ⟨W0, HW0⟩ : ∃ W, Hid ((w.alloc (.cells #[.int .i64 k, .int .i64 o, .int .i64 a, .int .i64 y, .int .i64 d, .int .i64 q, .int .i64 p, .int .i64 l, .int .i64 s, .int .i64 n, .bool on, .int .i64 z, .int .i64 t] 37)) = W) := ⟨_, Lib.hid rfl⟩
  have HBW : Hid (Below w.heap.size w W0) := Lib.hid (by rw [← HW0.out]; exact (Below.refl _ _).alloc (by simp) _)
  have HX0 : Hid (∀ W, Below W0.heap.size W0 W → W.heap[w.heap.size]? = some (.cells #[.int .i64 k, .int .i64 o, .int .i64 a, .int .i64 y, .int .i64 d, .int .i64 q, .int .i64 p, .int .i64 l, .int .i64 s, .int .i64 n, .bool on, .int .i64 z, .int .i64 t] 37 (0, 0))) := Lib.hid (fun W hb => (hb.block _ (by rw [← HW0.out]; simp; try omega)).trans (by rw [← HW0.out]; have := heap_alloc_new w (.cells #[.int .i64 k, .int .i64 o, .int .i64 a, .int .i64 y, .int .i64 d, .int .i64 q, .int .i64 p, .int .i64 l, .int .i64 s, .int .i64 n, .bool on, .int .i64 z, .int .i64 t] 37); exact this))
  have HP : Hid (false = b) := Lib.hid (by rw [← h]; simp at h1 h2 h3 h4 h5 h6; simp [may, h1, h2, h3, h4, h5, h6])
  clear h
  go_enter Try.func58, Try.ntmps58
  have hv : b = false := by rw [← HP.out]; (try simp [])
  subst hv
  go_wp2_with fail
  go_ret
  exact ⟨retB (by first | rfl | simp), by rw [HW0.out]; exact HBW.out⟩

theorem may_is (k o a y d q p l s n : Int) (on : Bool) (z t : Int) {b : Bool} (h : may ⟨k, o, a, y, d, q, p, l, s, n, on, z, t⟩ = b) (w : World) : Calls Try.prog 58 #[.agg #[.int .i64 k, .int .i64 o, .int .i64 a, .int .i64 y, .int .i64 d, .int .i64 q, .int .i64 p, .int .i64 l, .int .i64 s, .int .i64 n, .bool on, .int .i64 z, .int .i64 t]] w fun e w' => e = .returned (.bool b) ∧ Below w.heap.size w w' := by
  by_cases h1 : k = 1
  · subst h1; exact may_1 o a y d q p l s n on z t h w
  by_cases h2 : k = 2
  · subst h2; exact may_2 o a y d q p l s n on z t h w
  by_cases h3 : k = 3
  · subst h3; exact may_3 o a y d q p l s n on z t h w
  by_cases h4 : k = 4
  · subst h4; exact may_4 o a y d q p l s n on z t h w
  by_cases h5 : k = 5
  · subst h5; exact may_5 o a y d q p l s n on z t h w
  by_cases h6 : k = 6
  · subst h6; exact may_6 o a y d q p l s n on z t h w
  exact may_0 k o a y d q p l s n on z t (by simpa using h1) (by simpa using h2) (by simpa using h3) (by simpa using h4) (by simpa using h5) (by simpa using h6) h w

end Go.Proofs.Ytiljgndgffoloab.rec
