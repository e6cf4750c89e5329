/-
  Contracts of package disk: Rename.
-/
import Derived.Test.YtjmjpnmlpdbbpaaDiskImpl13
namespace Go.Proofs.Ytjmjpnmlpdbbpaa.disk
open Go.RowKit
set_option linter.unusedVariables false

/-- what stands against an operation, looked for in the copy. -/
theorem allowed_fr (n : Nat) (room fuse : Int) (down : Bool) (nm : ByteArray) (fs : List FileD) (x : Int) (w : World) (hn : fs.length = n) (hr : inI room) (hfu : inI fuse) (hsh : shortB fs = true) (hnm : nm.size ≤ 100) (hx : firstE ⟨fs, room, fuse, down⟩ nm nm = x) :
    ∀ (A1 : Option Addr) (c1 : Nat) (S1 : Nat → Prop) (w1 W : World) (d0 d1 d2 d3 r0 r1 r2 r3 : Value), Fr 24 w w1 W d0 d1 d2 d3 r0 r1 r2 r3 → OwnF w1 (w.heap.size + 2) 51 S1 A1 n c1 fs → (∀ b, S1 b → w.heap.size + 2 ≤ b ∧ b < w1.heap.size) →
      Calls Try.prog 37 #[.agg #[.slice A1 n c1, .int .i64 room, .int .i64 fuse, .bool down], .string nm] W fun e w' => e = .returned (.int .i64 x) ∧ Below W.heap.size W w' :=
  fun A1 c1 S1 w1 W d0 d1 d2 d3 r0 r1 r2 r3 h ho hs => dallowed A1 n c1 room fuse down nm fs x (Lt W.heap.size) W (fun _ h => h) (fr_reads h ho hs) hn ho.cap.1 ho.cap.2 hr hfu (by have := (used_short hsh).1; omega) (by unfold maxLen; omega) hx

/-- all that may come of a new name. -/
theorem op_ren (d : DiskD) (a b : ByteArray) :
    (firstE d b b ≠ 0 ∧ renameD d a b = (d, firstE d b b)) ∨ (firstE d b b = 0 ∧ foundE d a ≠ 0 ∧ renameD d a b = (d, foundE d a)) ∨
    ∃ f, firstE d b b = 0 ∧ foundE d a = 0 ∧ rightB d = true ∧ look a d.files = some f ∧ oldOf a d.files = f ∧ f.name = a ∧ -1 ≤ d.fuse ∧
      ((d.fuse = 0 ∧ spentD d.fuse d.down = ((0, true), 9) ∧ renameD d a b = (⟨d.files, d.room, 0, true⟩, 9)) ∨
       ∃ f2, d.fuse ≠ 0 ∧ spentD d.fuse d.down = ((f2, d.down), 0) ∧ renameD d a b = (⟨renF d.files a b, d.room, f2, d.down⟩, 0)) := by
  by_cases hb : firstE d b b = 0
  · obtain ⟨hr, hdn, hnb, _⟩ := first_zero.1 hb
    by_cases ha : firstE d a a = 0
    · obtain ⟨_, _, hna, _⟩ := first_zero.1 ha
      have hab : firstE d a b = 0 := first_zero.2 ⟨hr, hdn, hna, hnb⟩
      rcases op_no d a (renF d.files a b) with ⟨h1, _⟩ | ⟨f, h1, _, hlk, hold, hname, hfz, h2⟩
      · have h3 : foundE d a = noE d.files a := by unfold foundE; rw [if_neg (by simpa using ha)]
        exact .inr (.inl ⟨hb, h1, op_pre hab h3.symm h1⟩)
      · have h7 : noE d.files a = 0 := by unfold noE; rw [if_neg (by rw [hlk]; simp)]
        refine .inr (.inr ⟨f, hb, h1, hr, hlk, hold, hname, hfz, ?_⟩)
        rcases h2 with ⟨hz, hsp, _⟩ | ⟨f2, hz, hsp, h6⟩
        · exact .inl ⟨hz, hsp, op_down hab h7 hz⟩
        · refine .inr ⟨f2, hz, hsp, ?_⟩
          have e := op_done (d := d) (a := a) (b := b) (fs := renF d.files a b) (app := false) hab h7 hz rfl
          have e2 := op_done (d := d) (a := a) (b := a) (fs := renF d.files a b) (app := false) ha h7 hz rfl
          rw [h6] at e2
          show opD d a b (noE d.files a) (renF d.files a b) false = _
          rw [e, ← e2]
    · have h3 : foundE d a = firstE d a a := by unfold foundE; rw [if_pos ha]
      have h4 : firstE d a b = firstE d a a := by
        rw [first_up hr hdn, first_up hr hdn]
        cases hna : named a
        · rfl
        · exfalso; apply ha; rw [first_up hr hdn, hna]; rfl
      rw [h3]
      exact .inr (.inl ⟨hb, ha, op_first h4 ha⟩)
  · have h4 : firstE d a b = firstE d b b := by
      cases hr : rightB d with
      | false => unfold firstE; rw [hr]; rfl
      | true =>
        cases hdn : d.down with
        | true => rw [first_down hr hdn, first_down hr hdn]
        | false =>
          rw [first_up hr hdn, first_up hr hdn]
          cases hnb : named b
          · cases named a <;> rfl
          · exfalso; apply hb; rw [first_up hr hdn, hnb]; rfl
    exact .inl ⟨hb, op_first h4 hb⟩

set_option maxHeartbeats 8000000 in
theorem drename (A : Option Addr) (n c : Nat) (room fuse : Int) (down : Bool) (na nb : ByteArray) (fs : List FileD) (r : DiskD × Int) (S : Nat → Prop) (w : World) (hS : ∀ b, S b → b < w.heap.size) (hf : FilesIn w S A fs) (hn : fs.length = n) (hnc : n ≤ c) (hcm : c ≤ maxLen) (hr : inI room) (hfu : inI fuse) (hsh : shortB fs = true) (hna : na.size ≤ 100) (hnb : nb.size ≤ 100) (hv : renameD ⟨fs, room, fuse, down⟩ na nb = r) :
    Calls Try.prog 20 #[.agg #[.slice A n c, .int .i64 room, .int .i64 fuse, .bool down], .string na, .string nb] w (RetOp S w r) := by
  have HCP := Lib.hid (dcopy_fr A n c room fuse down fs S w hS hf hn hnc hcm hsh)
  obtain ⟨y, hy⟩ : ∃ y, firstE ⟨fs, room, fuse, down⟩ nb nb = y := ⟨_, rfl⟩
  obtain ⟨x, hx⟩ : ∃ x, foundE ⟨fs, room, fuse, down⟩ na = x := ⟨_, rfl⟩
  obtain ⟨p, hp⟩ : ∃ p, (if x = 0 then placeN na fs else 0) = p := ⟨_, rfl⟩
  have HAL := Lib.hid (allowed_fr n room fuse down nb fs y w hn hr hfu hsh hnb hy)
  have HFD := Lib.hid (found_fr n room fuse down na fs p x w hn hr hfu hsh hna hx hp)
  have HN := Lib.hid hn
  have hn70 : n ≤ 70 := by rw [← hn]; exact (used_short hsh).2
  rcases op_ren ⟨fs, room, fuse, down⟩ na nb with ⟨h1, h2⟩ | ⟨h0, h1, h2⟩ | ⟨f, h0, h1, hrt, hlk, hold, hname, hfz, h2⟩
  · have HR2 : Hid (r = (⟨fs, room, fuse, down⟩, y)) := Lib.hid (by rw [← hv, ← hy]; exact h2)
    have hy1 : (y != 0) = true := by rw [← hy]; simpa using h1
    clear hf hn hnc hcm hsh hx hp hv h1 hS hna hnb h2 hy
    go_enter Try.func20, Try.ntmps20
    go_wp2_with (first
      | ((with_reducible refine HCP.out.mono ?_); rintro e w1 ⟨A1, c1, S1, rfl, HO1, HAP, HS1, F1⟩; obtain ⟨b0, b1, b2, b3, q0, q1, q2, q3, bf0, bf1, bf2, bf3, qf0, qf1, qf2, qf3⟩ := F1.out.cells; have F2 := Lib.hid (F1.out.setBox (.slice A1 n c1) (.int .i64 room) (.int .i64 fuse) (.bool down)))
      | ((with_reducible refine (HAL.out _ _ _ _ _ _ _ _ _ _ _ _ _ F2.out HO1.out HS1.out).mono ?_); rintro e wa ⟨rfl, hga⟩; have Fa := Lib.hid (F2.out.below hga); obtain ⟨ca0, ca1, ca2, ca3, caq0, caq1, caq2, caq3, caf0, caf1, caf2, caf3, cag0, cag1, cag2, cag3⟩ := Fa.out.cells))
    refine bodyPost_ret (v := .tuple #[.agg #[.slice A1 n c1, .int .i64 room, .int .i64 fuse, .bool down], .int .i64 y]) (by simp [results, Try.results20, go_sem, caq0, caq1, caq2, caq3]) rfl ?_
    rw [HR2.out]
    have F9 := Fa.out.setRes (.slice A1 n c1) (.int .i64 room) (.int .i64 fuse) (.bool down)
    exact F9.ret (F9.own HO1.out (Nat.le_refl _) HS1.out) (by omega) (fun b hb => by have := HS1.out b hb; have := F9.size; omega) _ _ _ _
  · obtain rfl : 0 = y := by rw [← hy, h0]
    have HR2 : Hid (r = (⟨fs, room, fuse, down⟩, x)) := Lib.hid (by rw [← hv, ← hx]; exact h2)
    have hx1 : (x != 0) = true := by rw [← hx]; simpa using h1
    clear hf hn hnc hcm hsh hx hp hv h1 hS hna hnb h2 hy h0
    go_enter Try.func20, Try.ntmps20
    go_wp2_with (first
      | ((with_reducible refine HCP.out.mono ?_); rintro e w1 ⟨A1, c1, S1, rfl, HO1, HAP, HS1, F1⟩; obtain ⟨b0, b1, b2, b3, q0, q1, q2, q3, bf0, bf1, bf2, bf3, qf0, qf1, qf2, qf3⟩ := F1.out.cells; have F2 := Lib.hid (F1.out.setBox (.slice A1 n c1) (.int .i64 room) (.int .i64 fuse) (.bool down)))
      | ((with_reducible refine (HAL.out _ _ _ _ _ _ _ _ _ _ _ _ _ F2.out HO1.out HS1.out).mono ?_); rintro e wa ⟨rfl, hga⟩; have Fa := Lib.hid (F2.out.below hga); obtain ⟨ca0, ca1, ca2, ca3, caq0, caq1, caq2, caq3, caf0, caf1, caf2, caf3, cag0, cag1, cag2, cag3⟩ := Fa.out.cells)
      | ((with_reducible refine (HFD.out _ _ _ _ _ _ _ _ _ _ _ _ _ Fa.out HO1.out HS1.out).mono ?_); rintro e w2 ⟨rfl, hg2⟩; have F3 := Lib.hid (Fa.out.below hg2); obtain ⟨cb0, cb1, cb2, cb3, cbq0, cbq1, cbq2, cbq3, cbf0, cbf1, cbf2, cbf3, cbg0, cbg1, cbg2, cbg3⟩ := F3.out.cells))
    refine bodyPost_ret (v := .tuple #[.agg #[.slice A1 n c1, .int .i64 room, .int .i64 fuse, .bool down], .int .i64 x]) (by simp [results, Try.results20, go_sem, cbq0, cbq1, cbq2, cbq3]) rfl ?_
    rw [HR2.out]
    have F9 := F3.out.setRes (.slice A1 n c1) (.int .i64 room) (.int .i64 fuse) (.bool down)
    exact F9.ret (F9.own HO1.out (Nat.le_refl _) HS1.out) (by omega) (fun b hb => by have := HS1.out b hb; have := F9.size; omega) _ _ _ _
  · obtain rfl : 0 = y := by rw [← hy, h0]
    obtain rfl : 0 = x := by rw [← hx, h1]
    have hrow : Row fs := ((right_iff _).1 hrt).2.2.2.2.1
    have hpl := place_at hrow hlk
    have hpp : placeN na fs = p := by rw [← hp]; simp
    rw [hpp] at hpl
    have hpn : p < n := by rw [← hn]; exact (List.getElem?_eq_some_iff.1 hpl).1
    rcases h2 with ⟨hz, hsp, h2⟩ | ⟨f2, hz, hsp, h2⟩
    · have HR2 : Hid (r = (⟨fs, room, 0, true⟩, 9)) := Lib.hid (by rw [← hv]; exact h2)
      have HSP : Hid (∀ A1 c1 W, Calls Try.prog 40 #[.agg #[.slice A1 n c1, .int .i64 room, .int .i64 fuse, .bool down]] W fun e w' => e = .returned (.tuple #[.agg #[.slice A1 n c1, .int .i64 room, .int .i64 0, .bool true], .int .i64 9]) ∧ Below W.heap.size W w') :=
        Lib.hid (fun A1 c1 W => dspent A1 n c1 room fuse down 0 true 9 W hfu hfz hsp)
      clear hf hn hnc hcm hsh hx hp hv h1 hS hna hnb h2 hz hsp hrt hlk hold hname hrow hpl hpp hy h0
      go_enter Try.func20, Try.ntmps20
      go_wp2_with (first
        | ((with_reducible refine HCP.out.mono ?_); rintro e w1 ⟨A1, c1, S1, rfl, HO1, HAP, HS1, F1⟩; obtain ⟨b0, b1, b2, b3, q0, q1, q2, q3, bf0, bf1, bf2, bf3, qf0, qf1, qf2, qf3⟩ := F1.out.cells; have F2 := Lib.hid (F1.out.setBox (.slice A1 n c1) (.int .i64 room) (.int .i64 fuse) (.bool down)))
        | ((with_reducible refine (HAL.out _ _ _ _ _ _ _ _ _ _ _ _ _ F2.out HO1.out HS1.out).mono ?_); rintro e wa ⟨rfl, hga⟩; have Fa := Lib.hid (F2.out.below hga); obtain ⟨ca0, ca1, ca2, ca3, caq0, caq1, caq2, caq3, caf0, caf1, caf2, caf3, cag0, cag1, cag2, cag3⟩ := Fa.out.cells)
        | ((with_reducible refine (HFD.out _ _ _ _ _ _ _ _ _ _ _ _ _ Fa.out HO1.out HS1.out).mono ?_); rintro e w2 ⟨rfl, hg2⟩; have F3 := Lib.hid (Fa.out.below hg2); obtain ⟨cb0, cb1, cb2, cb3, cbq0, cbq1, cbq2, cbq3, cbf0, cbf1, cbf2, cbf3, cbg0, cbg1, cbg2, cbg3⟩ := F3.out.cells)
        | ((with_reducible refine (HSP.out _ _ _).mono ?_); rintro e w4 ⟨rfl, hg4⟩; have F4 := Lib.hid (F3.out.below hg4); obtain ⟨cc0, cc1, cc2, cc3, ccq0, ccq1, ccq2, ccq3, ccf0, ccf1, ccf2, ccf3, ccg0, ccg1, ccg2, ccg3⟩ := F4.out.cells))
      refine bodyPost_ret (v := .tuple #[.agg #[.slice A1 n c1, .int .i64 room, .int .i64 0, .bool true], .int .i64 9]) (by simp [results, Try.results20, go_sem, ccq0, ccq1, ccq2, ccq3]) rfl ?_
      rw [HR2.out]
      have F9 := (F4.out.setBox (.slice A1 n c1) (.int .i64 room) (.int .i64 0) (.bool true)).setRes (.slice A1 n c1) (.int .i64 room) (.int .i64 0) (.bool true)
      exact F9.ret (F9.own HO1.out (Nat.le_refl _) HS1.out) (by omega) (fun b hb => by have := HS1.out b hb; have := F9.size; omega) _ _ _ _
    · obtain ⟨m, him⟩ : ∃ m, n = p + 1 + m := ⟨n - (p + 1), by omega⟩
      have HIM := Lib.hid him
      clear him
      have HSE : Hid (sans na fs = fs.eraseIdx p) := Lib.hid (by rw [← hname]; exact sans_erase hrow hpl)
      have HRE : Hid (Row (fs.eraseIdx p)) := Lib.hid (by rw [← HSE.out]; exact row_sans _ hrow)
      have HR2 : Hid (r = (⟨withF { f with name := nb } (fs.eraseIdx p), room, f2, down⟩, 0)) := Lib.hid (by rw [← hv, ← HSE.out, ← hold]; exact h2)
      have HSP : Hid (∀ A1 c1 W, Calls Try.prog 40 #[.agg #[.slice A1 n c1, .int .i64 room, .int .i64 fuse, .bool down]] W fun e w' => e = .returned (.tuple #[.agg #[.slice A1 n c1, .int .i64 room, .int .i64 f2, .bool down], .int .i64 0]) ∧ Below W.heap.size W w') :=
        Lib.hid (fun A1 c1 W => dspent A1 n c1 room fuse down f2 down 0 W hfu hfz hsp)
      have HPL := Lib.hid hpl
      have HWF : Hid ((Lit.int .i64 f.sure).wf = true) := Lib.hid (by have := ((file_iff f).1 ((right_files hrt).2.1 f (List.mem_of_getElem? hpl))).2; exact WalkArith.wf_i64 (by omega))
      have HNB : Hid (nb.size ≤ maxLen) := Lib.hid (by unfold maxLen; omega)
      clear hf hn hnc hcm hsh hx hp hv h1 hS hna hnb h2 hz hsp hrt hlk hold hname hrow hpl hpp hy h0
      go_enter Try.func20, Try.ntmps20
      go_wp2_with (first
        | ((with_reducible refine HCP.out.mono ?_); rintro e w1 ⟨A1, c1, S1, rfl, HO1, HAP, HS1, F1⟩; have hc63 := HO1.out.cap.2; have hc62 := HO1.out.cap.1; unfold maxLen at hc63; obtain ⟨g, cur, rfl, hgb, hgw, EG, hcs, hSg, HRW⟩ := own_some HO1.out (by omega); obtain ⟨b0, b1, b2, b3, q0, q1, q2, q3, bf0, bf1, bf2, bf3, qf0, qf1, qf2, qf3⟩ := F1.out.cells; have F2 := Lib.hid (F1.out.setBox (.slice (some ⟨g, 0, none⟩) n c1) (.int .i64 room) (.int .i64 fuse) (.bool down)))
        | ((with_reducible refine (HAL.out _ _ _ _ _ _ _ _ _ _ _ _ _ F2.out HO1.out HS1.out).mono ?_); rintro e wa ⟨rfl, hga⟩; have Fa := Lib.hid (F2.out.below hga); obtain ⟨ca0, ca1, ca2, ca3, caq0, caq1, caq2, caq3, caf0, caf1, caf2, caf3, cag0, cag1, cag2, cag3⟩ := Fa.out.cells)
        | ((with_reducible refine (HFD.out _ _ _ _ _ _ _ _ _ _ _ _ _ Fa.out HO1.out HS1.out).mono ?_); rintro e w2 ⟨rfl, hg2⟩; have F3 := Lib.hid (Fa.out.below hg2); obtain ⟨cb0, cb1, cb2, cb3, cbq0, cbq1, cbq2, cbq3, cbf0, cbf1, cbf2, cbf3, cbg0, cbg1, cbg2, cbg3⟩ := F3.out.cells)
        | ((with_reducible refine (HSP.out _ _ _).mono ?_); rintro e w4 ⟨rfl, hg4⟩; have F4 := Lib.hid (F3.out.below hg4); obtain ⟨cc0, cc1, cc2, cc3, ccq0, ccq1, ccq2, ccq3, ccf0, ccf1, ccf2, ccf3, ccg0, ccg1, ccg2, ccg3⟩ := F4.out.cells; have F5 := Lib.hid (F4.out.setBox (.slice (some ⟨g, 0, none⟩) n c1) (.int .i64 room) (.int .i64 f2) (.bool down)); obtain ⟨Ad, nd, cd, x0, x1, x2, x3, x4, x5, x6, x7, x8⟩ := HRW.out.at_ HPL.out; have EG4 := Lib.hid ((F4.out.same g hgb hgw).trans EG.out); obtain ⟨z0, zf0⟩ := block_cell EG4.out (p * 3) _ x0; obtain ⟨z1, zf1⟩ := block_cell EG4.out (p * 3 + 1) _ x1; obtain ⟨z2, zf2⟩ := block_cell EG4.out (p * 3 + 2) _ x2; have X5 := Lib.hid x5; have X8 := Lib.hid x8; clear x0 x1 x2 x5 x8))
      have hsz5 := size_set4 w4 w.heap.size (.slice (some ⟨g, 0, none⟩) n c1) (.int .i64 room) (.int .i64 f2) (.bool down)
      have F6 := Lib.hid (F5.out.below ((Below.refl _ _).alloc (Nat.le_refl _) (.cells #[.string nb, .slice Ad nd cd, .int .i64 f.sure] 51)))
      have eb := heap_alloc_new ((((w4.setCell ⟨w.heap.size, 0, none⟩ (.slice (some ⟨g, 0, none⟩) n c1)).setCell ⟨w.heap.size, 1, none⟩ (.int .i64 room)).setCell ⟨w.heap.size, 2, none⟩ (.int .i64 f2)).setCell ⟨w.heap.size, 3, none⟩ (.bool down)) (.cells #[.string nb, .slice Ad nd cd, .int .i64 f.sure] 51)
      rw [hsz5] at eb
      have EB := Lib.hid eb
      have hszB : (((((w4.setCell ⟨w.heap.size, 0, none⟩ (.slice (some ⟨g, 0, none⟩) n c1)).setCell ⟨w.heap.size, 1, none⟩ (.int .i64 room)).setCell ⟨w.heap.size, 2, none⟩ (.int .i64 f2)).setCell ⟨w.heap.size, 3, none⟩ (.bool down)).alloc (.cells #[.string nb, .slice Ad nd cd, .int .i64 f.sure] 51)).heap.size = w4.heap.size + 1 := by rw [← hsz5]; simp
      have hsz4 := F4.out.size
      clear eb b0 b1 b2 b3 q0 q1 q2 q3 bf0 bf1 bf2 bf3 qf0 qf1 qf2 qf3 ca0 ca1 ca2 ca3 caq0 caq1 caq2 caq3 caf0 caf1 caf2 caf3 cag0 cag1 cag2 cag3 cb0 cb1 cb2 cb3 cbq0 cbq1 cbq2 cbq3 cbf0 cbf1 cbf2 cbf3 cbg0 cbg1 cbg2 cbg3 cc0 cc1 cc2 cc3 ccq0 ccq1 ccq2 ccq3 ccf0 ccf1 ccf2 ccf3 ccg0 ccg1 ccg2 ccg3 z0 z1 z2 zf0 zf1 zf2 hg2 hg4 hga HFD HSP HCP HAL F5 hsz5 F2 Fa F3 EG4
      generalize (((((w4.setCell ⟨w.heap.size, 0, none⟩ (.slice (some ⟨g, 0, none⟩) n c1)).setCell ⟨w.heap.size, 1, none⟩ (.int .i64 room)).setCell ⟨w.heap.size, 2, none⟩ (.int .i64 f2)).setCell ⟨w.heap.size, 3, none⟩ (.bool down)).alloc (.cells #[.string nb, .slice Ad nd cd, .int .i64 f.sure] 51)) = w7 at *
      have EG7 := Lib.hid ((F6.out.same g hgb hgw).trans EG.out)
      have HAL7 : Hid (∀ b, S1 b → w7.heap[b]? = w1.heap[b]?) := Lib.hid (fun b hb => F6.out.same b (HS1.out b hb).1 (HS1.out b hb).2)
      have HDEL := Lib.hid (ddelete g n c1 p m cur fs S1 w7.drew HN.out HIM.out hc62 hc63 EG7.out hcs hSg (HRW.out.keep (fun b o hSb => World.cell?_of_block (HAL7.out b hSb)) (fun _ h => h)))
      obtain ⟨ca0, ca1, ca2, ca3, caq0, caq1, caq2, caq3, caf0, caf1, caf2, caf3, cag0, cag1, cag2, cag3⟩ := F6.out.cells
      obtain ⟨y0, yf0⟩ := block_cell EB.out 0 _ rfl
      obtain ⟨y1, yf1⟩ := block_cell EB.out 1 _ rfl
      obtain ⟨y2, yf2⟩ := block_cell EB.out 2 _ rfl
      have hw1 : IntKind.i64.wrap ((p : Int) + 1) = (p : Int) + 1 := by rw [IntKind.wrap_i64]; omega
      have hne4 : w4.heap.size ≠ g := by omega
      clear F4
      go_region_with (first
        | (go_at_call 47; refine Calls.mono HDEL.out ?_; rintro e w8 ⟨rfl, cur8, eg8, hcs8, hrw8, hb8, hs8, hoff8⟩; have F8 := Lib.hid (F6.out.drew.other (hb8.mono hgb)); have HOFF8 : Hid (∀ b, b ≠ g → w8.heap[b]? = w7.heap[b]?) := Lib.hid hoff8; have EB8 := Lib.hid ((HOFF8.out _ hne4).trans EB.out); have hs8' : w8.heap.size = w7.heap.size := hs8; clear hoff8 hs8; obtain ⟨cb0, cb1, cb2, cb3, cbq0, cbq1, cbq2, cbq3, cbf0, cbf1, cbf2, cbf3, cbg0, cbg1, cbg2, cbg3⟩ := F8.out.cells; obtain ⟨v0, vf0⟩ := block_cell EB8.out 0 _ rfl; obtain ⟨v1, vf1⟩ := block_cell EB8.out 1 _ rfl; obtain ⟨v2, vf2⟩ := block_cell EB8.out 2 _ rfl; have HAL8 : Hid (∀ b, S1 b → w8.heap[b]? = w1.heap[b]?) := Lib.hid (fun b hb => (HOFF8.out b (fun e => hSg (e ▸ hb))).trans (HAL7.out b hb)); have HPC := Lib.hid (dplaced (some ⟨g, 0, none⟩) (p + m) c1 (w.heap.size + 2) (fs.eraseIdx p) { f with name := nb } Ad nd cd S1 w8 ⟨by rw [List.length_eraseIdx, HN.out, if_pos hpn]; have := HIM.out; omega, by have := HIM.out; omega, by unfold maxLen; omega, .inr ⟨g, cur8, rfl, hgb, eg8, hcs8, hSg, hrw8⟩⟩ (by omega) (by have := HIM.out; omega) HRE.out HNB.out HWF.out ⟨Ad, nd, cd, rfl, IntsIn.keep X5.out (fun b o hSb => World.cell?_of_block (HAL8.out b hSb)) (fun _ h => h), x6.out, x7, X8.out⟩ (fun b hb => ⟨by have := HS1.out b hb; omega, fun e => hSg (addr_eq e ▸ hb)⟩)); clear eg8 hcs8 hrw8)
        | (go_at_call 46; refine Calls.mono HPC.out ?_; rintro e w9 ⟨A9, n9, c9, rfl, ho9, hb9, hoff9⟩; have F9 := Lib.hid (F8.out.other hb9); have HO9 := Lib.hid ho9; have hs9 := hb9.size; clear ho9 hoff9; obtain ⟨cc0, cc1, cc2, cc3, ccq0, ccq1, ccq2, ccq3, ccf0, ccf1, ccf2, ccf3, ccg0, ccg1, ccg2, ccg3⟩ := F9.out.cells))
      all_goals
        go_wp2
        refine bodyPost_ret (v := .tuple #[.agg #[.slice A9 n9 c9, .int .i64 room, .int .i64 f2, .bool down], .int .i64 0]) (by simp [results, Try.results20, go_sem, ccq0, ccq1, ccq2, ccq3]) rfl ?_
        rw [HR2.out]
        have F10 := (F9.out.set0 (.slice A9 n9 c9)).setRes (.slice A9 n9 c9) (.int .i64 room) (.int .i64 f2) (.bool down)
        exact F10.ret (F10.own HO9.out (Nat.le_refl _) (fun b hb => by have := HS1.out b hb; omega)) (by omega) (fun b hb => by have := HS1.out b hb; have := F10.size; omega) _ _ _ _

end Go.Proofs.Ytjmjpnmlpdbbpaa.disk
