/-
  BookMath6, NumAdd, NumSub, NumMax, NumMul, Tot
-/
import Derived.Test.YtaagpldanbjacaaMa17
import Derived.Test.YtaagpldanbjacaaRows
import Derived.Test.YtaagpldanbjacaaMa16
import Derived.WalkKit
import Derived.WalkSpells
import Derived.WalkLawsBesides
section
namespace Go.Proofs.Ytaagpldanbjacaa.book
open Go.Proofs.Ytaagpldanbjacaa.cell (Ce Ex covers_iff)
open Go.Proofs.Ytaagpldanbjacaa.order (Or Nt open_ worth Took)
open Go.Proofs.Ytaagpldanbjacaa.rec (Rc)
open Go.Proofs.Ytaagpldanbjacaa.frame (inR)
set_option linter.unusedVariables false
set_option linter.unusedSimpArgs false

/-- by how much an order of these weights grows what orders come to. -/
structure More (y P : Int) (os os' : List Or) : Prop where
  b : ∀ i, sum (wB y i) os ≤ sum (wB y i) os'
  s : ∀ i, sum (wS y i) os ≤ sum (wS y i) os'
  n : ∀ i, sum (wN y i) os ≤ sum (wN y i) os'
  b' : ∀ i, i ≠ P → sum (wB y i) os' = sum (wB y i) os
  s' : ∀ i, i ≠ P → sum (wS y i) os' = sum (wS y i) os
  n' : ∀ i, i ≠ P → sum (wN y i) os' = sum (wN y i) os
theorem more_snoc {y : Int} {os : List Or} {o : Or} (h : order.Rightly o) : More y (pl y o) os (os ++ [o]) where
  b i := by rw [sum_snoc]; have := wB_nn (y := y) (i := i) h; omega
  s i := by rw [sum_snoc]; have := wS_nn (y := y) (i := i) h; omega
  n i := by rw [sum_snoc]; have := wN_nn (y := y) (i := i) h; omega
  b' i hi := by rw [sum_snoc]; have : wB y i o = 0 := by unfold wB; simp [Ne.symm hi]
                omega
  s' i hi := by rw [sum_snoc]; have : wS y i o = 0 := by unfold wS; simp [Ne.symm hi]
                omega
  n' i hi := by rw [sum_snoc]; have : wN y i o = 0 := by unfold wN; simp [Ne.symm hi]
                omega
theorem more_set {y : Int} {os : List Or} {k : Nat} {o p : Or} (hk : os[k]? = some o) (hp : pl y p = pl y o) (hd : p.d = o.d) (h1 : open_ o ≤ open_ p) (h2 : (worth o).1 ≤ (worth p).1) : More y (pl y o) os (os.set k p) where
  b i := by rw [sum_set _ os k o p hk]; have : wB y i o ≤ wB y i p := by unfold wB; rw [hp, hd]; split <;> omega
            omega
  s i := by rw [sum_set _ os k o p hk]; have : wS y i o ≤ wS y i p := by unfold wS; rw [hp, hd]; split <;> omega
            omega
  n i := by rw [sum_set _ os k o p hk]; have : wN y i o ≤ wN y i p := by unfold wN; rw [hp]; split <;> omega
            omega
  b' i hi := by rw [sum_set _ os k o p hk]; have : wB y i o = wB y i p := by unfold wB; rw [hp]; simp [Ne.symm hi]
                omega
  s' i hi := by rw [sum_set _ os k o p hk]; have : wS y i o = wS y i p := by unfold wS; rw [hp]; simp [Ne.symm hi]
                omega
  n' i hi := by rw [sum_set _ os k o p hk]; have : wN y i o = wN y i p := by unfold wN; rw [hp]; simp [Ne.symm hi]
                omega
theorem put_at {s : St} {os : List Or} {i : Nat} {c : Ce} (hc : s.cs[i]? = some c) : (put s os).cs[i]? = some (cellAt s.y i c.p os) := by
  unfold put
  exact cells_at (by rw [List.getElem?_map, hc]; rfl)
theorem put_len (s : St) (os : List Or) : (put s os).cs.length = s.cs.length := by unfold put; simp [cells_len]
/-- what was asked for, and done: where it went, and that it kept within the limits. -/
structure Kept (s t : St) (o : Or) : Prop where
  len : t.cs.length = s.cs.length
  ls : t.ls = s.ls
  ps : t.ps = s.ps
  a : t.a = s.a
  y : t.y = s.y
  k : s.k = false
  seq : t.seq = s.seq
  oa : 0 ≤ o.a ∧ o.a < s.a
  oy : 0 ≤ o.y ∧ o.y < s.y
  cell : ∀ (i : Nat) (c d : Ce), s.cs[i]? = some c → t.cs[i]? = some d → cell.covers (exOf d) (exOf c) = true ∧ ((i : Int) ≠ pl s.y o → d = c) ∧ ∀ l, s.ls[i]? = some l → limit.against (exOf c) (exOf d) l = false
  cap : openA s o.a.toNat ≤ openA t o.a.toNat ∧ ∀ p, s.ps[o.a.toNat]? = some p → limit.cap (openA s o.a.toNat) (openA t o.a.toNat) p = false
theorem kept_put {s t : St} {os : List Or} {o : Or} (hs : Rightly s) (ht : Rightly t) (hm : More s.y (pl s.y o) s.os os) (hcs : t.cs = (put s os).cs) (hls : t.ls = s.ls) (hps : t.ps = s.ps) (hta : t.a = s.a) (hty : t.y = s.y) (hk : s.k = false) (hq : t.seq = s.seq) (ha : 0 ≤ o.a ∧ o.a < s.a) (hy : 0 ≤ o.y ∧ o.y < s.y) (hst : stands s (put s os) o.a o.y = false) : Kept s t o := by
  have hlen : t.cs.length = s.cs.length := by rw [hcs, put_len]
  have hcell : ∀ (i : Nat) (c d : Ce), s.cs[i]? = some c → t.cs[i]? = some d → c.b ≤ d.b ∧ c.s ≤ d.s ∧ c.n ≤ d.n ∧ d.p = c.p ∧ ((i : Int) ≠ pl s.y o → d = c) := fun i c d hc hd => by
    rw [hcs, put_at hc] at hd
    obtain rfl := Option.some.inj hd
    have h1 := (cell_is hs hc).1
    have e1 : c.b = sum (wB s.y i) s.os := by rw [h1]; rfl
    have e2 : c.s = sum (wS s.y i) s.os := by rw [h1]; rfl
    have e3 : c.n = sum (wN s.y i) s.os := by rw [h1]; rfl
    refine ⟨by rw [e1]; exact hm.b i, by rw [e2]; exact hm.s i, by rw [e3]; exact hm.n i, rfl, fun hne => ?_⟩
    rw [h1]
    unfold cellAt
    simp only
    rw [hm.b' i hne, hm.s' i hne, hm.n' i hne]
  have hn : ∀ (i : Nat) (c d : Ce), t.cs[i]? = some c → s.cs[i]? = some d → d.n ≤ c.n := fun i c d hc hd => (hcell i d c hd hc).2.2.1
  have hja : ((o.a.toNat : Nat) : Int) = o.a := by omega
  have hmono := acc_less (y := s.y) (j := o.a.toNat) hlen.symm (cs_nn ht) (cs_nn hs) hn (by rw [← hty, open_fits ht (by omega)])
  unfold stands at hst
  rw [Bool.or_eq_false_iff] at hst
  obtain ⟨hst1, hst2⟩ := hst
  refine ⟨hlen, hls, hps, hta, hty, hk, hq, ha, hy, fun i c d hc hd => ?_, ?_, ?_⟩
  · obtain ⟨g1, g2, g3, g4, g5⟩ := hcell i c d hc hd
    refine ⟨covers_iff.2 (by unfold exOf; simp only; omega), g5, fun l hl => ?_⟩
    by_cases hi : (i : Int) = pl s.y o
    · have hpl : place s.y o.a o.y = i := by unfold place; unfold pl at hi; omega
      rw [hpl, getD_at hc, getD_at hl, getD_at (by rw [← hcs]; exact hd), of_right (cell_is hs hc).2.2, of_right (cell_is ht hd).2.2] at hst1
      exact hst1
    · rw [g5 hi, limit.against_no]; omega
  · unfold openA; rw [hty]; exact hmono.2
  · intro p hp
    rw [getD_at hp, ← hcs] at hst2
    unfold openA; rw [hty]; exact hst2
theorem keeps {s t : St} {r : Rc} (h : do_ s r = (t, 0)) (hk : r.k = 1 ∨ r.k = 2) : ∃ k o, find t.os r.o = some k ∧ t.os[k]? = some o ∧ Kept s t o := by
  have ht := (do_right h).1
  obtain ⟨hw, u, hu, rfl⟩ := do_ok h
  obtain ⟨hs, hr, hl, ha, hy, hn⟩ := not_wrong hw
  cases hu with
  | new k1 hk1 hlen hb hf hst =>
    rename_i o
    obtain ⟨_, _, hor, he⟩ := order.begin_right hb
    have hidx : (s.os ++ [o])[s.os.length]? = some o := by simp
    have hid : o.i = r.o := by rw [he]
    have h0 : 0 ≤ o.a ∧ 0 ≤ o.y := by unfold order.Rightly at hor; omega
    refine ⟨s.os.length, o, by rw [← hid]; exact find_at ht.2.2.2.1.2.1 hidx, hidx, ?_⟩
    have ea : o.a = r.a := by rw [he]
    have ey : o.y = r.y := by rw [he]
    exact kept_put hs ht (more_snoc hor) rfl rfl rfl rfl rfl hk1 rfl ⟨h0.1, by rw [ea]; exact ha⟩ ⟨h0.2, by rw [ey]; exact hy⟩ (by rw [ea, ey]; exact hst)
  | replace k2 hk1 ho hi hc hf hst =>
    rename_i k o p
    obtain ⟨h1, h2, h3, h4, h5, h6, h7, h8, h9⟩ := order.change_ok hc
    have hkl := (List.getElem?_eq_some_iff.1 ho).1
    have hidx : (s.os.set k p)[k]? = some p := by rw [List.getElem?_set_self hkl]
    have hid : p.i = r.o := by rw [h9]; exact hi
    have hmem := hs.2.2.2.1.1 o (List.mem_of_getElem? ho)
    have h0 : 0 ≤ o.a ∧ 0 ≤ o.y := by unfold order.Rightly at h1; omega
    have ea : p.a = o.a := by rw [h9]
    have ey : p.y = o.y := by rw [h9]
    have ed : p.d = o.d := by rw [h9]
    have hpl : pl s.y p = pl s.y o := by unfold pl; rw [ea, ey]
    have hwp : (worth p).2 = 0 := hf.1 p (List.mem_of_getElem? hidx)
    obtain ⟨a0, ha0, hle⟩ := order.change_worth hc (b := (worth p).1) (by rw [← hwp])
    refine ⟨k, p, by rw [← hid]; exact find_at ht.2.2.2.1.2.1 hidx, hidx, ?_⟩
    exact kept_put hs ht (by rw [hpl]; exact more_set ho hpl ed (order.change_open hc) (by rw [ha0]; exact hle)) rfl rfl rfl rfl rfl hk1 rfl (by rw [ea]; exact ⟨h0.1, hmem.2.2.1⟩) (by rw [ey]; exact ⟨h0.2, hmem.2.2.2.1⟩) (by rw [ea, ey]; exact hst)
  | cancel k1 => omega
  | cap k1 => omega
  | bound k1 => omega
  | kill k1 => omega
  | past k1 => omega
  | told k1 => omega

/-- a state with higher limits. -/
structure Higher (s t : St) : Prop where
  a : t.a = s.a
  y : t.y = s.y
  os : t.os = s.os
  cs : t.cs = s.cs
  k : t.k = s.k
  last : t.last = s.last
  seq : t.seq = s.seq
  ls : ∀ (i : Nat), limit.lowers (s.ls.getD i xz) (t.ls.getD i xz) = false
  ps : ∀ (i : Nat), s.ps.getD i 0 ≤ t.ps.getD i 0
theorem higher_stands {s t : St} (h : Higher s t) (os : List Or) (a y : Int) (hst : stands s (put s os) a y = false) : stands t (put t os) a y = false := by
  unfold stands at *
  rw [Bool.or_eq_false_iff] at *
  have hp : (put t os).cs = (put s os).cs := by unfold put; simp only; rw [h.y, h.cs]
  rw [hp, h.y, h.cs]
  refine ⟨limit.higher (h.ls _) hst.1, ?_⟩
  have h2 := hst.2
  have h3 := h.ps a.toNat
  simp only [limit.cap, decide_eq_false_iff_not] at *
  omega
theorem higher_ask {s t : St} (h : Higher s t) {os : List Or} {a y last : Int} (hd : (ask s os a y last).2 = 0) : (ask t os a y last).2 = 0 := by
  have h1 := ask_ok (t := (ask s os a y last).1) (by rw [← hd])
  have hp : (put t os).cs = (put s os).cs := by unfold put; simp only; rw [h.y, h.cs]
  unfold ask
  rw [hp, h.a, h.y, if_pos h1.2.1, if_neg (by rw [higher_stands h os a y h1.2.2]; simp)]
theorem higher_do {s t : St} {r : Rc} (h : Higher s t) (ht : Rightly t) (hl : t.lsn < 1000000000) (hd : (do_ s r).2 = 0) : (do_ t r).2 = 0 := by
  have h0 := do_ok (s := s) (r := r) (t := (do_ s r).1) (by rw [← hd])
  obtain ⟨hs, hr, hlsn, ha, hy, hn⟩ := not_wrong h0.1
  have hw : ¬ Wrong t r := by
    unfold Wrong
    rw [right_iff.2 ht, hr, h.a, h.y, h.last]
    simp
    refine ⟨by omega, by omega, by omega, fun hk => by have := hn hk; omega⟩
  have hdo : (doing s r).2 = 0 := by
    unfold do_ at hd
    rw [if_neg h0.1] at hd
    split at hd
    · exact hd
    · rename_i h1; simpa using h1
  have hto : (doing t r).2 = 0 := by
    unfold doing at *
    rw [h.os, h.k, h.last]
    split
    · rename_i k1
      rw [if_pos k1] at hdo
      split at hdo
      · simp at hdo
      rename_i e1
      rw [if_neg e1]
      split at hdo
      · simp at hdo
      rename_i e2
      rw [if_neg e2]
      exact higher_ask h hdo
    rename_i k1
    rw [if_neg k1] at hdo
    split
    · rename_i k2
      rw [if_pos k2] at hdo
      split at hdo
      · simp at hdo
      · rename_i k hf
        split at hdo
        · simp at hdo
        rename_i e1
        rw [if_neg e1]
        split at hdo
        · simp at hdo
        rename_i e2
        rw [if_neg e2]
        exact higher_ask h hdo
    rename_i k2
    rw [if_neg k2] at hdo
    split
    · rename_i k3
      rw [if_pos k3] at hdo
      split at hdo
      · simp at hdo
      · rename_i k hf
        split at hdo
        · simp at hdo
        rename_i e1
        rw [if_neg e1]
    rename_i k3
    split
    · split <;> rfl
    rename_i k4
    split
    · rfl
    rename_i k5
    rw [if_neg k3, if_neg k4, if_neg k5] at hdo
    unfold event at *
    rw [h.seq, h.os]
    split at hdo
    · simp at hdo
    rename_i e1
    rw [if_neg e1]
    split
    · rfl
    · split <;> rfl
  unfold do_
  rw [if_neg hw, if_neg (by rw [hto]; simp)]

end Go.Proofs.Ytaagpldanbjacaa.book
end
section
namespace Go.Proofs.Ytaagpldanbjacaa.num
open Go.RowKit
set_option linter.unusedVariables false


theorem add_ok (a b : Int) (w : World) (ha : inI a) (hb : inI b) (h : inI (a + b)) :
    Calls Try.prog 32 #[.int .i64 a, .int .i64 b] w fun e w' => e = .returned (.tuple #[.int .i64 (a + b), .int .i64 0]) ∧ w = w' := by
  unfold inI at ha hb h
  by_cases hn : b < 0
  · have h2 : a + b < a := by omega
    go_enter Try.func32, Try.ntmps32
    go_wp2
    go_ret2
    exact ⟨rfl, rfl⟩
  · have h2 : ¬ a + b < a := by omega
    go_enter Try.func32, Try.ntmps32
    go_wp2
    go_ret2
    exact ⟨rfl, rfl⟩

theorem add_over (a b : Int) (w : World) (ha : inI a) (hb : inI b) (h : ¬ inI (a + b)) :
    Calls Try.prog 32 #[.int .i64 a, .int .i64 b] w fun e w' => e = .returned (.tuple #[.int .i64 0, .int .i64 3]) ∧ w = w' := by
  unfold inI at ha hb h
  by_cases hn : b < 0
  · have h2 : ¬ wrap64 (a + b) < a := by unfold wrap64; omega
    go_enter Try.func32, Try.ntmps32
    go_wp2
    go_ret2
    exact ⟨rfl, rfl⟩
  · have h2 : wrap64 (a + b) < a := by unfold wrap64; omega
    go_enter Try.func32, Try.ntmps32
    go_wp2
    go_ret2
    exact ⟨rfl, rfl⟩

theorem add_is (a b s : Int) (w : World) (ha : inI a) (hb : inI b) (hs : inI s) (h : a + b = s) :
    Calls Try.prog 32 #[.int .i64 a, .int .i64 b] w fun e w' => e = .returned (.tuple #[.int .i64 s, .int .i64 0]) ∧ w = w' := by
  subst h; exact add_ok a b w ha hb hs

end Go.Proofs.Ytaagpldanbjacaa.num
end
section
namespace Go.Proofs.Ytaagpldanbjacaa.num
open Go.RowKit
set_option linter.unusedVariables false


theorem sub_ok (a b : Int) (w : World) (ha : inI a) (hb : inI b) (h : inI (a - b)) :
    Calls Try.prog 33 #[.int .i64 a, .int .i64 b] w fun e w' => e = .returned (.tuple #[.int .i64 (a - b), .int .i64 0]) ∧ w = w' := by
  unfold inI at ha hb h
  by_cases hn : b < 0
  · have h2 : a < a - b := by omega
    go_enter Try.func33, Try.ntmps33
    go_wp2
    go_ret2
    exact ⟨rfl, rfl⟩
  · have h2 : ¬ a < a - b := by omega
    go_enter Try.func33, Try.ntmps33
    go_wp2
    go_ret2
    exact ⟨rfl, rfl⟩

theorem sub_over (a b : Int) (w : World) (ha : inI a) (hb : inI b) (h : ¬ inI (a - b)) :
    Calls Try.prog 33 #[.int .i64 a, .int .i64 b] w fun e w' => e = .returned (.tuple #[.int .i64 0, .int .i64 3]) ∧ w = w' := by
  unfold inI at ha hb h
  by_cases hn : b < 0
  · have h2 : ¬ a < wrap64 (a - b) := by unfold wrap64; omega
    go_enter Try.func33, Try.ntmps33
    go_wp2
    go_ret2
    exact ⟨rfl, rfl⟩
  · have h2 : a < wrap64 (a - b) := by unfold wrap64; omega
    go_enter Try.func33, Try.ntmps33
    go_wp2
    go_ret2
    exact ⟨rfl, rfl⟩

theorem sub_is (a b s : Int) (w : World) (ha : inI a) (hb : inI b) (hs : inI s) (h : a - b = s) :
    Calls Try.prog 33 #[.int .i64 a, .int .i64 b] w fun e w' => e = .returned (.tuple #[.int .i64 s, .int .i64 0]) ∧ w = w' := by
  subst h; exact sub_ok a b w ha hb hs

end Go.Proofs.Ytaagpldanbjacaa.num
end
section
namespace Go.Proofs.Ytaagpldanbjacaa.num
open Go.RowKit
set_option linter.unusedVariables false


theorem max_any (a b : Int) (w : World) (ha : inI a) (hb : inI b) :
    Calls Try.prog 91 #[.int .i64 a, .int .i64 b] w fun e w' => e = .returned (.int .i64 (max a b)) ∧ w = w' := by
  unfold inI at ha hb
  by_cases h : a < b
  · rw [show max a b = b by omega]
    go_enter Try.func91, Try.ntmps91
    go_wp2
    go_ret
    exact ⟨by simp, rfl⟩
  · rw [show max a b = a by omega]
    go_enter Try.func91, Try.ntmps91
    go_wp2
    go_ret
    exact ⟨by simp, rfl⟩

end Go.Proofs.Ytaagpldanbjacaa.num
end
section
namespace Go.Proofs.Ytaagpldanbjacaa.num
open Go.RowKit
set_option linter.unusedVariables false


theorem mul_ok (a b : Int) (w : World) (ha : inI a) (hb : inI b) (h : inI (a * b)) :
    Calls Try.prog 90 #[.int .i64 a, .int .i64 b] w fun e w' => e = .returned (.tuple #[.int .i64 (a * b), .int .i64 0]) ∧ w = w' := by
  unfold inI at ha hb h
  by_cases hz : a = 0
  · subst hz
    go_enter Try.func90, Try.ntmps90
    go_wp2
    go_ret2
    exact ⟨by simp, rfl⟩
  by_cases hy : b = 0
  · subst hy
    go_enter Try.func90, Try.ntmps90
    go_wp2
    go_ret2
    exact ⟨by simp, rfl⟩
  have hz' : (a == 0) = false := by simpa using hz
  have hy' : (b == 0) = false := by simpa using hy
  have h1 : wrap64 ((a * b).tdiv a) = b := by rw [Int.mul_tdiv_cancel_left _ hz]; unfold wrap64; omega
  have h2 : wrap64 ((a * b).tdiv b) = a := by rw [Int.mul_tdiv_cancel _ hy]; unfold wrap64; omega
  go_enter Try.func90, Try.ntmps90
  go_wp2
  go_ret2
  exact ⟨rfl, rfl⟩

/-- what wraps is off by whole rounds. -/
theorem mul_over (a b : Int) (w : World) (ha : inI a) (hb : inI b) (h : ¬ inI (a * b)) :
    Calls Try.prog 90 #[.int .i64 a, .int .i64 b] w fun e w' => e = .returned (.tuple #[.int .i64 0, .int .i64 3]) ∧ w = w' := by
  have hz : a ≠ 0 := by rintro rfl; exact h (by unfold inI; omega)
  have hy : b ≠ 0 := by rintro rfl; exact h (by unfold inI; omega)
  have H := mul_wraps a b ha hb hz hy h
  have hz' : (a == 0) = false := by simpa using hz
  have hy' : (b == 0) = false := by simpa using hy
  by_cases h1 : wrap64 ((wrap64 (a * b)).tdiv a) = b
  · have h2 := H h1
    have h1' : (wrap64 ((wrap64 (a * b)).tdiv a) != b) = false := by simpa using h1
    have h2' : (wrap64 ((wrap64 (a * b)).tdiv b) != a) = true := by simpa using h2
    clear H h1 h2 h
    go_enter Try.func90, Try.ntmps90
    go_wp2
    go_ret2
    exact ⟨rfl, rfl⟩
  · have h1' : (wrap64 ((wrap64 (a * b)).tdiv a) != b) = true := by simpa using h1
    clear H h1 h
    go_enter Try.func90, Try.ntmps90
    go_wp2
    go_ret2
    exact ⟨rfl, rfl⟩

theorem mul_is (a b s : Int) (w : World) (ha : inI a) (hb : inI b) (hs : inI s) (h : a * b = s) :
    Calls Try.prog 90 #[.int .i64 a, .int .i64 b] w fun e w' => e = .returned (.tuple #[.int .i64 s, .int .i64 0]) ∧ w = w' := by
  subst h; exact mul_ok a b w ha hb hs

end Go.Proofs.Ytaagpldanbjacaa.num
end
section
namespace Go.Proofs.Ytaagpldanbjacaa.num
open Go.RowKit
set_option linter.unusedVariables false

theorem total_any (A : Option Addr) (n cap B : Nat) (xs : List Int) (w : World) (hx : Ints .i64 w B A xs) (hn : xs.length = n) (hm : n ≤ 140737488355328) :
    Calls Try.prog 53 #[.slice A n cap] w fun e w' => e = .returned (.tuple #[.int .i64 (totV (tot 0 xs)), .int .i64 (totE (tot 0 xs))]) ∧ w = w' := by
  have HN : Hid (xs.length = n) := Lib.hid hn
  go_enter Try.func53, Try.ntmps53
  clear hn
  go_wp2
  go_loop [4, 10] (fun t i => ∃ k : Nat, k ≤ n ∧ i = .int .i64 k ∧ ∃ s : Int, t = .int .i64 s ∧ inI s ∧ Hid (tot 0 xs = tot s (xs.drop k))) (fun _ i => n - (intOf i).toNat)
  case atStart => exact ⟨0, Nat.zero_le _, rfl, 0, rfl, by unfold inI; omega, Lib.hid (by simp)⟩
  case round =>
    obtain ⟨k, hk, rfl, s, rfl, hs, HT⟩ := hrel
    by_cases hlt : k < n
    · obtain ⟨b, off, x, rfl, hb, HX, hc, hw⟩ := hx.at_ (j := k) (by rw [HN.out]; exact hlt)
      have hxi := inI_of_wf hw
      by_cases hin : inI (s + x)
      · go_wp2_with ((with_reducible refine (add_ok _ _ _ hs hxi hin).mono ?_); rintro e w' ⟨rfl, rfl⟩)
        go_round
        case rel => exact ⟨k + 1, by omega, by go_num, _, rfl, hin, Lib.hid (by rw [HT.out, tot_yes s HX.out hin])⟩
        case measure => simp [intOf]; omega
      · have HE : Hid (tot 0 xs = none) := Lib.hid (by rw [HT.out, tot_no s HX.out hin])
        go_wp2_with ((with_reducible refine (add_over _ _ _ hs hxi hin).mono ?_); rintro e w' ⟨rfl, rfl⟩)
        go_ret2
        exact ⟨ret2 (by rw [HE.out]; rfl) (by rw [HE.out]; rfl), rfl⟩
    · have HE : Hid (tot 0 xs = some s) := Lib.hid (by rw [HT.out, List.drop_of_length_le (by rw [HN.out]; omega)]; rfl)
      go_wp2
      go_ret2
      exact ⟨ret2 (by rw [HE.out]; rfl) (by rw [HE.out]; rfl), rfl⟩

theorem total_some (A : Option Addr) (n cap B : Nat) (xs : List Int) (r : Int) (w : World) (hx : Ints .i64 w B A xs) (hn : xs.length = n) (hm : n ≤ 140737488355328) (h : tot 0 xs = some r) :
    Calls Try.prog 53 #[.slice A n cap] w fun e w' => e = .returned (.tuple #[.int .i64 r, .int .i64 0]) ∧ w = w' := by
  have c := total_any A n cap B xs w hx hn hm
  rw [h] at c; exact c
theorem total_none (A : Option Addr) (n cap B : Nat) (xs : List Int) (w : World) (hx : Ints .i64 w B A xs) (hn : xs.length = n) (hm : n ≤ 140737488355328) (h : tot 0 xs = none) :
    Calls Try.prog 53 #[.slice A n cap] w fun e w' => e = .returned (.tuple #[.int .i64 0, .int .i64 3]) ∧ w = w' := by
  have c := total_any A n cap B xs w hx hn hm
  rw [h] at c; exact c

end Go.Proofs.Ytaagpldanbjacaa.num
end
