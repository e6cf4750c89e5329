/-
  The fixed answer of layer 5.
-/
import Derived.Test.YtegbaidnkniccaaScanLaw
namespace Go.Proofs.Ytegbaidnkniccaa.scan
open Go.RowKit Go.Proofs.Ytegbaidnkniccaa Go.Proofs.Ytegbaidnkniccaa.frame
set_option linter.unusedVariables false
attribute [local go_sem] undef
attribute [local go_sem ↓] Go.wp_at_zero Go.wp_at_succ

def two : List Fr := [⟨1, 3, 1, 0, 0, 0, 0, 0, 0⟩, ⟨2, 4, 6, 0, 0, 0, 0, 0, 0⟩]
theorem two_fine : ∀ f ∈ two, f.fine := by
  intro f hf
  simp [two] at hf
  rcases hf with rfl | rfl <;> simp [Fr.fine, inR]
def cells2 : Array Value := #[.int .i64 1, .int .i64 3, .int .i64 1, .int .i64 0, .int .i64 0, .int .i64 0, .int .i64 0, .int .i64 0, .int .i64 0, .int .i64 2, .int .i64 4, .int .i64 6, .int .i64 0, .int .i64 0, .int .i64 0, .int .i64 0, .int .i64 0, .int .i64 0]
theorem two_frs (w : World) (t : TypeId) : Frs (w.alloc (.cells cells2 t)) (w.heap.size + 1) (some ⟨w.heap.size, 0, none⟩) two := fun _ =>
  ⟨w.heap.size, 0, rfl, Nat.lt_succ_self _, fun j x hj => by
    have hg := heap_alloc_new w (.cells cells2 t)
    match j, hj with
    | 0, hj =>
      simp [two] at hj; subst hj
      refine ⟨_, rfl, ?_, rfl, two_fine _ (by simp [two])⟩
      intro i c hi
      simp only [Nat.zero_mul, Nat.add_zero, Nat.zero_add]
      rw [cell_of_row _ _ i cells2 t (0, 0) hg]
      have hi9 : i < 9 := by have := (List.getElem?_eq_some_iff.1 hi).1; simpa [fc] using this
      match i, hi9, hi with
      | 0, _, hi => exact hi
      | 1, _, hi => exact hi
      | 2, _, hi => exact hi
      | 3, _, hi => exact hi
      | 4, _, hi => exact hi
      | 5, _, hi => exact hi
      | 6, _, hi => exact hi
      | 7, _, hi => exact hi
      | 8, _, hi => exact hi
    | 1, hj =>
      simp [two] at hj; subst hj
      refine ⟨_, rfl, ?_, rfl, two_fine _ (by simp [two])⟩
      intro i c hi
      simp only [Nat.one_mul, Nat.zero_add]
      rw [cell_of_row _ _ (9 + i) cells2 t (0, 0) hg]
      have hi9 : i < 9 := by have := (List.getElem?_eq_some_iff.1 hi).1; simpa [fc] using this
      match i, hi9, hi with
      | 0, _, hi => exact hi
      | 1, _, hi => exact hi
      | 2, _, hi => exact hi
      | 3, _, hi => exact hi
      | 4, _, hi => exact hi
      | 5, _, hi => exact hi
      | 6, _, hi => exact hi
      | 7, _, hi => exact hi
      | 8, _, hi => exact hi
    | j + 2, hj => simp [two] at hj⟩
theorem put_lt (l : List Fr) : ∀ x ∈ put l, x < 256 := by
  intro x hx
  simp only [put, List.mem_flatMap] at hx
  obtain ⟨f, _, h⟩ := hx
  exact enc_lt f x h
theorem ownNewB {w : World} {base : Nat} (hb : base ≤ w.heap.size) : OwnBys (w.alloc (.cells #[] 5)) base 5 (some ⟨w.heap.size, 0, none⟩) 0 0 [] :=
  OwnBys.new hb [] rfl (by simp) rfl (Nat.zero_le _)

theorem run_append_bys {P : Program} {w : World} (base : Nat) (t ty e : TypeId) (ht : P.underlying t = some (.slice e))
    (hinfo : (P.info? e).map (fun i => (i.zero, i.size, i.bytes)) = some (some (.int .u8 0), 1, 1))
    {A : Option Addr} {n c : Nat} {xs : List Nat} (hown : OwnBys w base e A n c xs) {B : Nat} {A2 : Option Addr} {m c2 : Nat} {ys : List Nat} (hr : Bys w B A2 ys) (hm : ys.length = m)
    (h63 : n + m ≤ 140737488355328) (hbase : base ≤ w.heap.size) :
    ∃ A' c' w', (Builtin.append_ #[t, t] ty #[.slice A n c, .slice A2 m c2]).run P w = .ok (.slice A' (n + m) c') w' ∧ OwnBys w' base e A' (n + m) c' (xs ++ ys) ∧
      w.grownBy w' (Value.slice A n c).ownBlock ∧ ((Value.slice A' (n + m) c').ownBlock = (Value.slice A n c).ownBlock ∨ (Value.slice A' (n + m) c').ownBlock = some w.heap.size) := by
  have hown' : OwnInts w base e .u8 A n c (toI xs) := hown
  have hr' : Ints .u8 w B A2 (toI ys) := hr
  have hl : (toI ys).length = m := by rw [toI_len]; exact hm
  have h1 : n + m ≤ maxLen := Nat.le_trans h63 (by decide)
  have h2 : (n + m) * 1 ≤ 140737488355328 := by rw [Nat.mul_one]; exact h63
  have key := run_append_ints (P := P) (w := w) base t ty e .u8 1 ht hinfo hown' hr' (c2 := c2) hl h1 h2 hbase
  obtain ⟨A', c', w', k1, k2, k3, k4⟩ := key
  have k5 : OwnBys w' base e A' (n + m) c' (xs ++ ys) := by unfold OwnBys; rw [toI_append]; exact k2
  exact ⟨A', c', w', k1, k5, k3, k4⟩

set_option maxRecDepth 100000 in
set_option maxHeartbeats 2000000 in
theorem awake_any (w : World) : Calls Try.prog 7 #[] w fun e w' => e = .returned (.bool true) ∧ Below w.heap.size w w' := by
  have hinfb : Hid ((Try.prog.info? 5).map (fun i => (i.zero, i.size, i.bytes)) = some (some (.int .u8 0), 1, 1)) := Lib.hid (by kernel_rfl)
  obtain ⟨W0, hW0⟩ : ∃ x, x = w.alloc (.cells cells2 28) := ⟨_, rfl⟩
  have HF : Hid (∀ W, Below W0.heap.size W0 W → Frs W W0.heap.size (some ⟨w.heap.size, 0, none⟩) two) := Lib.hid (fun W hb => by
    have := two_frs w 28
    rw [← hW0] at this
    exact Frs.below (this.more (by rw [hW0]; simp)) hb)
  have HBW : Hid (Below w.heap.size w W0) := Lib.hid (by rw [hW0]; exact (Below.refl _ _).alloc (Nat.le_refl _) _)
  have HW0 := Lib.hid hW0
  clear hW0
  unfold cells2 at HW0
  go_enter Try.func7, Try.ntmps7
  go_wp2_with fail
  rw [← HW0.out]
  refine Calls.mono (put_of W0 (HF.out W0 (Below.refl _ _)) (Nat.le_refl _) (l := two) (m := 2) rfl (by omega) (by decide) (N := 144) rfl) ?_
  rintro e w1 ⟨A1, c1, rfl, hown1, hb1⟩
  have HC1 := Lib.hid (own_bys_cap hown1)
  have hcc : (144 : Int) ≤ (c1 : Int) := by have := HC1.out.1; omega
  have hcc70 : (70 : Int) ≤ (c1 : Int) := by omega
  have HX1 : Hid (∀ W, Below w1.heap.size w1 W → Bys W w1.heap.size A1 (put two)) := Lib.hid (fun W hb => hown1.bys.below hb)
  have HB1 := Lib.hid hb1
  clear hb1 hown1
  have HL : Hid ((put two).length = 144) := Lib.hid (put_len two)
  have hsl : ∀ W, (Instr.slice 23 (.slice A1 144 c1) none (some (.int .i64 70)) none).run Try.prog W = .ok (.slice A1 70 c1) W := fun W => run_cut_to 23 5 1 1 _ Try.underlying23 hinfb.out A1 144 c1 70 70 rfl (by omega) W
  have HALL : Hid (all ([] ++ put two ++ (put two).take 70) 3 1 = two) := Lib.hid (by
    rw [List.nil_append, all_puts two _ 3 1 two_fine (by decide), all_short (by rw [List.length_take]; omega), List.append_nil])
  have HALL2 : Hid (all (put two) 3 2 = []) := Lib.hid (by
    have hd := dec_enc ⟨1, 3, 1, 0, 0, 0, 0, 0, 0⟩ (two_fine _ (by simp [two])) (by decide)
    refine all_no (put_lt two) (d := 0) (f := ⟨1, 3, 1, 0, 0, 0, 0, 0, 0⟩) ?_ (.inr (by decide))
    rw [show two = [⟨1, 3, 1, 0, 0, 0, 0, 0, 0⟩] ++ [⟨2, 4, 6, 0, 0, 0, 0, 0, 0⟩] from rfl, put_append, List.take_append_of_le_length (by rw [put_len]; simp), List.take_of_length_le (by rw [put_len]; simp), put_cons, put_nil, List.append_nil]
    exact hd)
  go_upto_region 5 with fail
  go_cut [4, 5] (fun s4 s5 wx => ∃ A4 c4, s4 = .slice A4 2 c4 ∧ s5 = .int .i64 144 ∧ Below w1.heap.size w1 wx ∧ Frs wx wx.heap.size A4 two)
  case first =>
    -- R5 BEGINS
    refine wp_region_any (by kernel_rfl) ?_
    change wpAny _ _ _ _ _ _ _ (World.drew _)
    obtain ⟨W2, hW2⟩ : ∃ x, x = w1.drew := ⟨_, rfl⟩
    rw [← hW2]
    have HB2 : Hid (Below w1.heap.size w1 W2) := Lib.hid (by rw [hW2]; exact (Below.refl _ _).drew)
    clear hW2
    refine wpAny_take (i := 1) (v := .slice A1 144 c1) rfl (by kernel_rfl) (by kernel_rfl) (by kernel_rfl) (fun _ _ _ h => h) (Or.inl ⟨by kernel_rfl, ?h1⟩) ?_
    case h1 => (intro w; go_simp)
    go_simp
    refine wpAny_take (i := 3) (v := .slice A1 144 c1) rfl (by kernel_rfl) (by kernel_rfl) (by kernel_rfl) (fun _ _ _ h => h) (Or.inl ⟨by kernel_rfl, ?h3⟩) ?_
    case h3 => (intro w; go_simp)
    go_simp
    refine wpAny_take (i := 4) (v := .slice A1 70 c1) rfl (by kernel_rfl) (by kernel_rfl) (by kernel_rfl) (fun _ _ _ h => h) (Or.inl ⟨by kernel_rfl, ?h4⟩) ?_
    case h4 => (intro w; go_simp)
    go_simp
    refine wpAny_ready (rs := [0]) (by kernel_rfl) (by simp) ?_
    refine AllReady.cons rfl (fun K hK => ?_) AllReady.nil
    go_simp
    refine hK _ _ ?_
    clear hK K
    obtain ⟨W3, hW3⟩ : ∃ x, x = W2.alloc (.cells #[] 5) := ⟨_, rfl⟩
    rw [← hW3]
    have hz2 : w1.heap.size ≤ W2.heap.size := HB2.out.size
    have HB3 : Hid (Below w1.heap.size w1 W3) := Lib.hid (by rw [hW3]; exact HB2.out.alloc hz2 _)
    have HO3 : Hid (OwnBys W3 w1.heap.size 5 (some ⟨W2.heap.size, 0, none⟩) 0 0 []) := Lib.hid (by rw [hW3]; exact ownNewB hz2)
    clear hW3
    refine wpAny_ready (rs := [2]) (by kernel_rfl) (by simp) ?_
    refine AllReady.cons rfl (fun K hK => ?_) AllReady.nil
    have hz3 : w1.heap.size ≤ W3.heap.size := HB3.out.size
    obtain ⟨A33, c33, W4, hrun, hown, hgr, hat⟩ := run_append_bys (P := Try.prog) w1.heap.size 23 23 5 Try.underlying23 hinfb.out HO3.out (HX1.out W3 HB3.out) (m := 144) (c2 := c1) HL.out (by omega) hz3
    refine step_append_runG (by kernel_rfl) _ _ 23 rfl _ _ (by rfl) (by rfl) hrun ?_
    refine hK _ _ ?_
    clear hK K
    have HB4 : Hid (Below w1.heap.size w1 W4) := Lib.hid (HB3.out.grown hgr hz3 (fun x hx => (OwnInts.block HO3.out x hx).1))
    have HO4 : Hid (OwnBys W4 w1.heap.size 5 A33 (0 + 144) c33 ([] ++ put two)) := Lib.hid hown
    clear hrun hown hgr hat
    go_simp
    refine wpAny_ready (rs := [5]) (by kernel_rfl) (by simp) ?_
    refine AllReady.cons rfl (fun K hK => ?_) AllReady.nil
    have hz4 : w1.heap.size ≤ W4.heap.size := HB4.out.size
    obtain ⟨A36, c36, W5, hrun, hown, hgr, hat⟩ := run_append_bys (P := Try.prog) w1.heap.size 23 23 5 Try.underlying23 hinfb.out HO4.out ((HX1.out W4 HB4.out).take 70) (m := 70) (c2 := c1) (by rw [List.length_take, HL.out]; rfl) (by omega) hz4
    refine step_append_runG (by kernel_rfl) _ _ 23 rfl _ _ (by rfl) (by rfl) hrun ?_
    refine hK _ _ ?_
    clear hK K
    have HB5 : Hid (Below w1.heap.size w1 W5) := Lib.hid (HB4.out.grown hgr hz4 (fun x hx => (OwnInts.block HO4.out x hx).1))
    have HO5 : Hid (OwnBys W5 w1.heap.size 5 A36 (0 + 144 + 70) c36 ([] ++ put two ++ (put two).take 70)) := Lib.hid hown
    clear hrun hown hgr hat
    go_simp
    refine wpAny_ready (rs := [6]) (by kernel_rfl) (by simp) ?_
    refine AllReady.cons rfl (fun K hK => ?_) AllReady.nil
    go_simp
    have hcap5 := own_bys_cap HO5.out
    go_wp2_with (refine Calls.mono (scan_of W5 (OwnBys.bys HO5.out) (Nat.le_refl _) (m := 214) (by rw [List.nil_append, List.length_append, List.length_take, HL.out]; rfl) (by omega) (by omega) (by omega) (l := two) (k := 2) HALL.out rfl) ?_; rintro e6 w6 ⟨A6, c6, rfl, hown6, hb6⟩)
    have HB6 : Hid (Below w1.heap.size w1 w6) := Lib.hid (HB5.out.trans (hb6.mono HB5.out.size))
    have HO6 := Lib.hid hown6
    clear hb6 hown6 hcap5
    refine wpAny_take (i := 7) (v := .tuple #[.slice A6 2 c6, .int .i64 144]) rfl (by kernel_rfl) (by kernel_rfl) (by kernel_rfl) (fun _ _ _ h => h) (Or.inl ⟨by kernel_rfl, ?h7⟩) ?_
    case h7 => (intro w; go_simp)
    go_simp
    refine wpAny_take (i := 8) (v := .slice A6 2 c6) rfl (by kernel_rfl) (by kernel_rfl) (by kernel_rfl) (fun _ _ _ h => h) (Or.inl ⟨by kernel_rfl, ?h8⟩) ?_
    case h8 => (intro w; go_simp)
    go_simp
    refine wpAny_take (i := 9) (v := .int .i64 144) rfl (by kernel_rfl) (by kernel_rfl) (by kernel_rfl) (fun _ _ _ h => h) (Or.inl ⟨by kernel_rfl, ?h9⟩) ?_
    case h9 => (intro w; go_simp)
    go_simp
    refine wpAny_take (i := 10) (v := .slice A6 2 c6) rfl (by kernel_rfl) (by kernel_rfl) (by kernel_rfl) (fun _ _ _ h => h) (Or.inl ⟨by kernel_rfl, ?h10⟩) ?_
    case h10 => (intro w; go_simp)
    go_simp
    refine wpAny_take (i := 11) (v := .int .i64 144) rfl (by kernel_rfl) (by kernel_rfl) (by kernel_rfl) (fun _ _ _ h => h) (Or.inl ⟨by kernel_rfl, ?h11⟩) ?_
    case h11 => (intro w; go_simp)
    go_simp
    refine wpAny_done (by kernel_rfl) ?_ _
    go_wp2_with fail
    go_meet
    exact ⟨A6, c6, rfl, rfl, HB6.out, HO6.out.frs⟩
    -- R5 ENDS
  case rest =>
    obtain ⟨A4, c4, rfl, rfl, hbc, hfc⟩ := hcut
    have HBC := Lib.hid hbc
    have HFC : Hid (∀ W, Below wc.heap.size wc W → Frs W wc.heap.size A4 two) := Lib.hid (fun W hb => hfc.below hb)
    clear hbc hfc
    go_wp2_with fail
    refine Calls.mono (scan_of wc (HX1.out wc HBC.out) HBC.out.size (m := 144) HL.out HC1.out.1 HC1.out.2 (by omega) (l := []) (k := 0) HALL2.out rfl) ?_
    rintro e w5 ⟨A5, c5, rfl, hown5, hb5⟩
    have HB5 := Lib.hid hb5
    have HBW5 : Hid (Below W0.heap.size W0 w5) := Lib.hid ((HB1.out.trans (HBC.out.mono HB1.out.size)).trans (hb5.mono (by have := HBC.out.size; have := HB1.out.size; omega)))
    clear hb5 hown5
    go_wp2_with fail
    refine Calls.mono (same_of w5 (HF.out w5 HBW5.out) HBW5.out.size (m := 2) rfl (by omega) (HFC.out w5 HB5.out) HB5.out.size (m2 := 2) rfl (by omega) (r := true) (decide_eq_true rfl)) ?_
    rintro e w6 ⟨rfl, hb6⟩
    have HBW6 : Hid (Below W0.heap.size W0 w6) := Lib.hid (HBW5.out.trans (hb6.mono HBW5.out.size))
    clear hb6
    go_wp2_with fail
    refine Calls.mono (row_of w6 (HF.out w6 HBW6.out) HBW6.out.size (m := 2) rfl (by omega) (r := true) (by decide)) ?_
    rintro e w7 ⟨rfl, hb7⟩
    have HBW7 : Hid (Below W0.heap.size W0 w7) := Lib.hid (HBW6.out.trans (hb7.mono HBW6.out.size))
    clear hb7
    go_wp2_with fail
    refine Calls.mono (row_of w7 (HF.out w7 HBW7.out) HBW7.out.size (m := 2) rfl (by omega) (r := false) (by decide)) ?_
    rintro e w8 ⟨rfl, hb8⟩
    have HBW8 : Hid (Below W0.heap.size W0 w8) := Lib.hid (HBW7.out.trans (hb8.mono HBW7.out.size))
    clear hb8
    go_wp2
    go_ret
    exact ⟨rfl, HBW.out.trans (HBW8.out.mono HBW.out.size)⟩
/-- a slice of frames, of bytes, that came in. -/
theorem frs_of {w : World} {p : Option Addr} {n c : Nat} {x : List FrameD} (h : rdSlice rdFrame 9 w (Lt w.heap.size) [.slice p n c] x) : Frs w w.heap.size p x ∧ x.length = n ∧ n ≤ c ∧ c ≤ 9223372036854775807 := by
  obtain ⟨A, m, cp, hA, hin, hlen, hcap, hmax⟩ := h
  simp only [List.cons.injEq, Value.slice.injEq, and_true] at hA
  obtain ⟨rfl, rfl, rfl⟩ := hA
  exact ⟨hin, hlen, hcap, by unfold maxLen at hmax; omega⟩
theorem bys_of {w : World} {p : Option Addr} {n c : Nat} {x : List Nat} (h : rdBytes w (Lt w.heap.size) [.slice p n c] x) : Bys w w.heap.size p x ∧ x.length = n ∧ n ≤ c ∧ c ≤ 9223372036854775807 := by
  obtain ⟨A, m, cp, hA, hin, hlen, hcap, hmax⟩ := h
  simp only [List.cons.injEq, Value.slice.injEq, and_true] at hA
  obtain ⟨rfl, rfl, rfl⟩ := hA
  exact ⟨BysIn.bys hin (fun b h => h), hlen, hcap, by unfold maxLen at hmax; omega⟩
end Go.Proofs.Ytegbaidnkniccaa.scan
