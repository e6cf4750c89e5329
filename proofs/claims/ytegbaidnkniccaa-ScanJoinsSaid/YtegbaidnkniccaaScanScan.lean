/-
  Contract of package scan's Scan.
-/
import Derived.Test.YtegbaidnkniccaaScanImpl1
namespace Go.Proofs.Ytegbaidnkniccaa.scan
open Go.RowKit Go.Proofs.Ytegbaidnkniccaa Go.Proofs.Ytegbaidnkniccaa.frame
set_option linter.unusedVariables false

/-- the frames in a row that bytes begin with. -/
def all (b : List Nat) (n e : Int) : List Fr := scan b.length b n e
theorem all_short {b : List Nat} (h : b.length < 72) (n e : Int) : all b n e = [] := scan_short h _ _ _
theorem all_yes {b : List Nat} {f : Fr} {n e : Int} (h : 72 ≤ b.length) (hd : dec (b.take 72) = (0, f)) (hf : firstB f n e = true) : all b n e = f :: all (b.drop 72) (n + 1) f.e := by
  have hr := firstB_right hf
  unfold all
  obtain ⟨k, hk⟩ : ∃ k, b.length = k + 1 := ⟨b.length - 1, by omega⟩
  rw [show scan b.length b n e = scan (k + 1) b n e by rw [hk]]
  simp only [scan]
  rw [hd, if_pos ⟨h, rfl, hr.2.1, hr.2.2⟩]
  congr 1
  exact scan_fuel _ _ _ _ _ (by rw [List.length_drop]; omega) (by omega)
theorem all_no {b : List Nat} {d : Int} {f : Fr} {n e : Int} (hb : ∀ x ∈ b, x < 256) (hd : dec (b.take 72) = (d, f)) (hf : d ≠ 0 ∨ firstB f n e = false) : all b n e = [] := by
  unfold all
  rcases hk : b.length with _ | k
  · rfl
  simp only [scan]
  rw [if_neg]
  rintro ⟨h1, h2, h3, h4⟩
  rw [hd] at h2 h3 h4
  rcases hf with h | h
  · exact h h2
  · have := (dec_ok (l := b.take 72) (fun x hx => hb x (List.mem_of_mem_take hx)) (by rw [hd]; exact h2)).1
    rw [hd] at this
    unfold firstB at h
    simp only at h3 h4 this
    simp [this, h3, h4] at h
theorem frame_zero : (dec []).2 = zero := rfl

/-- what comes of Scan: frames in a block of the call's own, and how many bytes these have. -/
def Scanned (l : List Fr) (w : World) (e : Ending) (w' : World) : Prop :=
  ∃ A n c, e = .returned (.tuple #[.slice A n c, .int .i64 ((n : Int) * 72)]) ∧ OwnFrs w' w.heap.size A n c l ∧ Hid (l.length = n) ∧ Below w.heap.size w w'

set_option maxHeartbeats 4000000 in
theorem scan_any (A : Option Addr) (m c : Nat) (bs : List Nat) (n ep : Int) (w : World) (hx : Bys w w.heap.size A bs) (hm : bs.length = m) (hc : m ≤ c) (hcm : c ≤ 9223372036854775807) (hmax : m ≤ 100000) :
    Calls Try.prog 11 #[.slice A m c, .int .i64 n, .int .i64 ep] w (Scanned (all bs n ep) w) := by
  obtain ⟨R, HR⟩ : ∃ R, Hid (all bs n ep = R) := ⟨_, Lib.hid rfl⟩
  rw [HR.out]
  have HX0 := Lib.hid hx
  have hinfo : Hid ((Try.prog.info? 28).map (fun i => (i.zero, i.size, i.bytes)) = some (some (.agg #[.int .i64 0, .int .i64 0, .int .i64 0, .int .i64 0, .int .i64 0, .int .i64 0, .int .i64 0, .int .i64 0, .int .i64 0]), 9, 72)) := Lib.hid (by kernel_rfl)
  have hinfb : Hid ((Try.prog.info? 5).map (fun i => (i.zero, i.size, i.bytes)) = some (some (.int .u8 0), 1, 1)) := Lib.hid (by kernel_rfl)
  have HM := Lib.hid hm
  clear hx hm
  go_enter Try.func11, Try.ntmps11
  go_wp2
  go_loopw [0, 1, 2, 8] (fun s0 s1 s2 s8 wr => ∃ (A1 A2 : Option Addr) (m1 c1 j c2 : Nat) (b1 : List Nat) (n' e' : Int) (acc : List Fr), s0 = .slice A1 m1 c1 ∧ s1 = .int .i64 n' ∧ s2 = .int .i64 e' ∧ s8 = .slice A2 j c2 ∧ 72 * j + m1 ≤ 100000 ∧ m1 ≤ c1 ∧ c1 ≤ 9223372036854775807 ∧
    Hid (Bys w w.heap.size A1 b1) ∧ Hid (b1.length = m1) ∧ Hid (OwnFrs wr w.heap.size A2 j c2 acc) ∧ Hid (acc ++ all b1 n' e' = R) ∧ Below w.heap.size w wr) (fun s0 _ _ _ _ => (match s0 with | .slice _ k _ => k | _ => 0))
  case atStart => exact ⟨A, none, m, c, 0, 0, bs, n, ep, [], rfl, rfl, rfl, rfl, by omega, hc, hcm, HX0, HM, Lib.hid OwnElems.nil, Lib.hid (by rw [← HR.out]; rfl), Below.refl _ _⟩
  case round =>
    obtain ⟨A1, A2, m1, c1, j, c2, b1, n', e', acc, rfl, rfl, rfl, rfl, hjm, hmc, hcm1, HX, HN, HO, HA, hbr⟩ := hrel
    have hj9 : j ≤ 100000 := by omega
    have hw72 : IntKind.i64.wrap ((j : Int) * 72) = (j : Int) * 72 := IntWalk.i64_in _ (by omega)
    by_cases hlt : m1 < 72
    · have HE : Hid (acc = R) := Lib.hid (by rw [← HA.out, all_short (by rw [HN.out]; exact hlt), List.append_nil])
      go_wp2
      go_ret2
      exact ⟨A2, j, c2, rfl, by rw [← HE.out]; exact HO.out, Lib.hid (by rw [← HE.out]; exact OwnElems.len HO.out), hbr⟩
    · have hge : 72 ≤ m1 := by omega
      obtain ⟨b, off, x, rfl, _⟩ := HX.out.at_ (j := 0) (by rw [HN.out]; omega)
      clear hlt
      obtain ⟨d, F, HD⟩ : ∃ d F, Hid (dec (b1.take 72) = (d, F)) := ⟨_, _, Lib.hid rfl⟩
      have hfine : F.fine := by have := dec_fine (l := b1.take 72) (fun x hx => HX.out.lt x (List.mem_of_mem_take hx)); rw [HD.out] at this; exact this
      obtain ⟨e, k, kd, q0, q1, q2, q3, q4, q5⟩ := F
      have HDC : Hid (∀ W, Below w.heap.size w W → Calls Try.prog 18 #[.slice (some ⟨b, off, none⟩) 72 c1] W fun e' w' => e' = .returned (.tuple #[.agg #[.int .i64 e, .int .i64 k, .int .i64 kd, .int .i64 q0, .int .i64 q1, .int .i64 q2, .int .i64 q3, .int .i64 q4, .int .i64 q5], .int .i64 d]) ∧ Below W.heap.size W w') :=
        Lib.hid (fun W hb => decode_of W (((HX.out.take 72)).below hb) hb.size (by rw [List.length_take, HN.out]; omega) (by omega) hcm1 HD.out)
      obtain ⟨f, HFF⟩ : ∃ f, Hid ((⟨e, k, kd, q0, q1, q2, q3, q4, q5⟩ : Fr) = f) := ⟨_, Lib.hid rfl⟩
      have HFN := Lib.hid hfine
      clear hfine
      have hsz := hbr.size
      have HBR := Lib.hid hbr
      clear hbr
      by_cases hd : d = 0
      · subst hd
        obtain ⟨r, Hr⟩ : ∃ r, Hid (firstB f n' e' = r) := ⟨_, Lib.hid rfl⟩
        have HC := Lib.hid (fun W => first_of HFF.out Hr.out W)
        go_wp2_with fail
        refine Calls.mono (HDC.out _ HBR.out) ?_
        rintro e1 w1 ⟨rfl, hb1⟩
        have HB1 := Lib.hid (HBR.out.trans (hb1.mono hsz))
        have HO1 : Hid (OwnFrs w1 w.heap.size A2 j c2 acc) := Lib.hid (ownElems_later keeps_frame HO.out hb1)
        have hsz1 : w.heap.size ≤ w1.heap.size := HB1.out.size
        clear hb1
        go_wp2_with fail
        refine Calls.mono (HC.out _) ?_
        rintro e2 w2 ⟨rfl, hb2⟩
        have hg : w2.heap[w1.heap.size]? = some (.cells #[.int .i64 e, .int .i64 k, .int .i64 kd, .int .i64 q0, .int .i64 q1, .int .i64 q2, .int .i64 q3, .int .i64 q4, .int .i64 q5] 28 (0, 0)) := (hb2.block _ (by simp)).trans (heap_alloc_new w1 _)
        have HG2 := Lib.hid hg
        have y0 : w2.cell? ⟨w1.heap.size, 0, none⟩ = some (.int .i64 e) := (block_cell hg 0 _ rfl).1
        have y1 : w2.cell? ⟨w1.heap.size, 1, none⟩ = some (.int .i64 k) := (block_cell hg 1 _ rfl).1
        have y2 : w2.cell? ⟨w1.heap.size, 2, none⟩ = some (.int .i64 kd) := (block_cell hg 2 _ rfl).1
        have y3 : w2.cell? ⟨w1.heap.size, 3, none⟩ = some (.int .i64 q0) := (block_cell hg 3 _ rfl).1
        have y4 : w2.cell? ⟨w1.heap.size, 4, none⟩ = some (.int .i64 q1) := (block_cell hg 4 _ rfl).1
        have y5 : w2.cell? ⟨w1.heap.size, 5, none⟩ = some (.int .i64 q2) := (block_cell hg 5 _ rfl).1
        have y6 : w2.cell? ⟨w1.heap.size, 6, none⟩ = some (.int .i64 q3) := (block_cell hg 6 _ rfl).1
        have y7 : w2.cell? ⟨w1.heap.size, 7, none⟩ = some (.int .i64 q4) := (block_cell hg 7 _ rfl).1
        have y8 : w2.cell? ⟨w1.heap.size, 8, none⟩ = some (.int .i64 q5) := (block_cell hg 8 _ rfl).1
        have hsz12 : w1.heap.size < w2.heap.size := cell_block y0
        have HB2 := Lib.hid ((HB1.out.alloc hsz1 (.cells #[.int .i64 e, .int .i64 k, .int .i64 kd, .int .i64 q0, .int .i64 q1, .int .i64 q2, .int .i64 q3, .int .i64 q4, .int .i64 q5] 28)).trans (hb2.mono (by simp; omega)))
        have HO2w : Hid (OwnFrs w2 w.heap.size A2 j c2 acc) := Lib.hid (ownElems_later keeps_frame (ownElems_later keeps_frame HO1.out ((Below.refl _ _).alloc (Nat.le_refl _) _)) hb2)
        have HO2 : Hid (∀ o, OwnFrs (w2.alloc o) w.heap.size A2 j c2 acc) := Lib.hid (fun o => ownElems_later keeps_frame (ownElems_later keeps_frame (ownElems_later keeps_frame HO1.out ((Below.refl _ _).alloc (Nat.le_refl _) _)) hb2) ((Below.refl _ _).alloc (Nat.le_refl _) _))
        clear hb2 hg
        rcases r with _ | _
        · have HE : Hid (acc = R) := Lib.hid (by rw [← HA.out, all_no HX.out.lt HD.out (.inr (by rw [HFF.out]; exact Hr.out)), List.append_nil])
          go_wp2
          go_ret2
          exact ⟨A2, j, c2, rfl, by rw [← HE.out]; exact HO2w.out, Lib.hid (by rw [← HE.out]; exact OwnElems.len HO.out), HB2.out⟩
        · have hr := firstB_right Hr.out
          have hlit := fr_lit HFF.out
          have hfit := right_fit hr.1
          have hk1 : 1 ≤ k := by omega
          have hk2 : k ≤ 1000000000 := by omega
          have HE : Hid ((acc ++ [⟨e, k, kd, q0, q1, q2, q3, q4, q5⟩]) ++ all (b1.drop 72) (k + 1) e = R) := Lib.hid (by
            rw [← HA.out, all_yes (by rw [HN.out]; exact hge) HD.out (by rw [HFF.out]; exact Hr.out), List.append_assoc, show n' = k by rw [← hr.2.1, hlit.2]]; rfl)
          clear hr hlit hfit
          have HB := Lib.hid (fun W => behind_of (e := e) (l := k) (k := kd) (b0 := q0) (b1 := q1) (b2 := q2) (b3 := q3) (b4 := q4) (b5 := q5) hk2 hk1 W)
          obtain ⟨A4, HA4⟩ : ∃ A4, Hid (cutAt (some ⟨b, off, none⟩) c1 72 1 = A4) := ⟨_, Lib.hid rfl⟩
          have hcut : ∀ W, (Instr.slice 23 (.slice (some ⟨b, off, none⟩) m1 c1) (some (.int .i64 72)) none none).run Try.prog W = .ok (.slice A4 (m1 - 72) (c1 - 72)) W := fun W => by
            rw [← HA4.out]; exact run_cut_from (P := Try.prog) 23 5 1 1 _ Try.underlying23 hinfb.out _ m1 c1 72 hge W
          have HX4 : Hid (Bys w w.heap.size A4 (b1.drop 72)) := Lib.hid (by rw [← HA4.out]; exact HX.out.cut 72 c1 (by rw [HN.out]; exact hmc))
          have hsz2 : w.heap.size ≤ w2.heap.size := by omega
          go_wp2_with (at_builtin; refine wpList_append_elems rfl (.tmp 29) (.tmp 31) _ rfl keeps_frame leaf_frame (by decide) w.heap.size 28 _ 72 Try.underlying22 hinfo.out rfl rfl (HO2.out _) rfl (each_one (R := rdFrame) rfl (x := (⟨e, k, kd, q0, q1, q2, q3, q4, q5⟩ : Fr)) ⟨rfl, HFN.out⟩) (cells_new rfl 1) rfl (fun _ h => h) (fun _ h => False.elim h) (by unfold maxLen; omega) (by omega) (by simp; omega) ?_; intro A3 c3 w3 hown3 hgr3 hat3; have HO3 := Lib.hid hown3; have hg3 : w3.heap[w1.heap.size]? = some (.cells #[.int .i64 e, .int .i64 k, .int .i64 kd, .int .i64 q0, .int .i64 q1, .int .i64 q2, .int .i64 q3, .int .i64 q4, .int .i64 q5] 28 (0, 0)) := ((hgr3.block _ (by simp; omega) (fun hh => by have := (HO1.out.block _ hh.symm).2; omega)).trans (Below.heap_alloc _ _ _ hsz12)).trans HG2.out; have HG3 := Lib.hid hg3; have HB3 : Hid (Below w.heap.size w w3) := Lib.hid ((HB2.out.alloc hsz2 _).grown hgr3 (by simp; omega) (fun g hg => ((HO2.out (.cells #[] 0)).block g hg).1)); have z0 : w3.cell? ⟨w1.heap.size, 0, none⟩ = some (.int .i64 e) := (block_cell hg3 0 _ rfl).1; have z1 : w3.cell? ⟨w1.heap.size, 1, none⟩ = some (.int .i64 k) := (block_cell hg3 1 _ rfl).1; have z2 : w3.cell? ⟨w1.heap.size, 2, none⟩ = some (.int .i64 kd) := (block_cell hg3 2 _ rfl).1; have z3 : w3.cell? ⟨w1.heap.size, 3, none⟩ = some (.int .i64 q0) := (block_cell hg3 3 _ rfl).1; have z4 : w3.cell? ⟨w1.heap.size, 4, none⟩ = some (.int .i64 q1) := (block_cell hg3 4 _ rfl).1; have z5 : w3.cell? ⟨w1.heap.size, 5, none⟩ = some (.int .i64 q2) := (block_cell hg3 5 _ rfl).1; have z6 : w3.cell? ⟨w1.heap.size, 6, none⟩ = some (.int .i64 q3) := (block_cell hg3 6 _ rfl).1; have z7 : w3.cell? ⟨w1.heap.size, 7, none⟩ = some (.int .i64 q4) := (block_cell hg3 7 _ rfl).1; have z8 : w3.cell? ⟨w1.heap.size, 8, none⟩ = some (.int .i64 q5) := (block_cell hg3 8 _ rfl).1; clear hg3 hgr3 hat3 hown3)
          go_wp2_with fail
          refine Calls.mono (HB.out _) ?_
          rintro e4 w4 ⟨rfl, hb4⟩
          have HB4 := Lib.hid (HB3.out.trans (hb4.mono HB3.out.size))
          have HO4 := Lib.hid (ownElems_later keeps_frame HO3.out hb4)
          clear hb4
          go_wp2
          go_roundw
          case rel => exact ⟨A4, A3, m1 - 72, c1 - 72, j + 1, c3, b1.drop 72, k + 1, e, acc ++ [⟨e, k, kd, q0, q1, q2, q3, q4, q5⟩], rfl, rfl, rfl, rfl, by omega, by omega, by omega, HX4, Lib.hid (by rw [List.length_drop, HN.out]), HO4, HE, HB4⟩
          case measure => first | (simp; done) | (simp; omega)
      · have hd2 : (d != 0) = true := by simpa using hd
        have HE : Hid (acc = R) := Lib.hid (by rw [← HA.out, all_no HX.out.lt HD.out (.inl hd), List.append_nil])
        clear hd
        go_wp2_with fail
        refine Calls.mono (HDC.out _ HBR.out) ?_
        rintro e1 w1 ⟨rfl, hb1⟩
        have HB1 := Lib.hid (HBR.out.trans (hb1.mono hsz))
        have HO1 : Hid (OwnFrs w1 w.heap.size A2 j c2 acc) := Lib.hid (ownElems_later keeps_frame HO.out hb1)
        have hsz1 : w.heap.size ≤ w1.heap.size := HB1.out.size
        clear hb1
        go_wp2
        go_ret2
        exact ⟨A2, j, c2, rfl, by rw [← HE.out]; exact ownElems_later keeps_frame HO1.out ((Below.refl _ _).alloc (Nat.le_refl _) _), Lib.hid (by rw [← HE.out]; exact OwnElems.len HO.out), HB1.out.alloc hsz1 _⟩
end Go.Proofs.Ytegbaidnkniccaa.scan
