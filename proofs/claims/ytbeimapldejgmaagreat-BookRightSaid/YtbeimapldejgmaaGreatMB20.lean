/-
  RecImpl1, RecImpl2, RecEq13, Api06R, RecRef0, RecRefA
-/
import Derived.Test.YtbeimapldejgmaaGreatRows
import Derived.Test.YtbeimapldejgmaaGreatMB19
import Derived.Test.YtbeimapldejgmaaGreatMB10
import Derived.Test.YtbeimapldejgmaaGreatMB05
import Derived.Test.YtbeimapldejgmaaGreatMB04
set_option linter.unusedVariables false
set_option linter.unusedSimpArgs false
section
namespace Go.Proofs.YtbeimapldejgmaaGreat.rec
open Go.RowKit Go.Proofs.YtbeimapldejgmaaGreat
end Go.Proofs.YtbeimapldejgmaaGreat.rec
end
section
namespace Go.Proofs.YtbeimapldejgmaaGreat.rec
open Go.RowKit Go.Proofs.YtbeimapldejgmaaGreat
theorem nums_is (k o a y d q p l s n : Int) (on : Bool) (z t : Int) {b0 b1 b2 b3 b4 b5 : Int} (h : nums ⟨k, o, a, y, d, q, p, l, s, n, on, z, t⟩ = ⟨b0, b1, b2, b3, b4, b5⟩) (w : World) : Calls Tryz.prog 75 #[.agg #[.int .i64 k, .int .i64 o, .int .i64 a, .int .i64 y, .int .i64 d, .int .i64 q, .int .i64 p, .int .i64 l, .int .i64 s, .int .i64 n, .bool on, .int .i64 z, .int .i64 t]] w fun e w' => e = .returned (.agg #[.int .i64 b0, .int .i64 b1, .int .i64 b2, .int .i64 b3, .int .i64 b4, .int .i64 b5]) ∧ Below w.heap.size w w' := by
 have hc : (k = 1 ∧ o = b0 ∧ a = b1 ∧ y = b2 ∧ d = b3 ∧ q = b4 ∧ p = b5) ∨ (k = 2 ∧ o = b0 ∧ q = b1 ∧ p = b2 ∧ 0 = b3 ∧ 0 = b4 ∧ 0 = b5) ∨ (k = 3 ∧ o = b0 ∧ 0 = b1 ∧ 0 = b2 ∧ 0 = b3 ∧ 0 = b4 ∧ 0 = b5) ∨ (k = 4 ∧ a = b0 ∧ y = b1 ∧ l = b2 ∧ s = b3 ∧ n = b4 ∧ 0 = b5)
   ∨ (k = 5 ∧ on = true ∧ 1 = b0 ∧ 0 = b1 ∧ 0 = b2 ∧ 0 = b3 ∧ 0 = b4 ∧ 0 = b5) ∨ (k = 5 ∧ on = false ∧ 0 = b0 ∧ 0 = b1 ∧ 0 = b2 ∧ 0 = b3 ∧ 0 = b4 ∧ 0 = b5) ∨ (k = 6 ∧ z = b0 ∧ t = b1 ∧ o = b2 ∧ q = b3 ∧ p = b4 ∧ 0 = b5)
   ∨ ((k == 1) = false ∧ (k == 2) = false ∧ (k == 3) = false ∧ (k == 4) = false ∧ (k == 5) = false ∧ (k == 6) = false ∧ 0 = b0 ∧ 0 = b1 ∧ 0 = b2 ∧ 0 = b3 ∧ 0 = b4 ∧ 0 = b5) := by
  unfold nums at h
  simp only at h
  by_cases h1 : k = 1
  ·rw [if_pos h1] at h; simp only [Ns.mk.injEq] at h; exact .inl ⟨h1, h⟩
  by_cases h2 : k = 2
  ·rw [if_neg h1, if_pos h2] at h; simp only [Ns.mk.injEq] at h; exact .inr (.inl ⟨h2, h⟩)
  by_cases h3 : k = 3
  ·rw [if_neg h1, if_neg h2, if_pos h3] at h; simp only [Ns.mk.injEq] at h; exact .inr (.inr (.inl ⟨h3, h⟩))
  by_cases h4 : k = 4
  ·rw [if_neg h1, if_neg h2, if_neg h3, if_pos h4] at h; simp only [Ns.mk.injEq] at h; exact .inr (.inr (.inr (.inl ⟨h4, h⟩)))
  by_cases h5 : k = 5
  ·rw [if_neg h1, if_neg h2, if_neg h3, if_neg h4, if_pos h5] at h
   cases on
   ·simp only [nz, Ns.mk.injEq, Bool.false_eq_true, if_false] at h; exact .inr (.inr (.inr (.inr (.inr (.inl ⟨h5, rfl, h⟩)))))
   ·simp only [nz, Ns.mk.injEq, if_true] at h; exact .inr (.inr (.inr (.inr (.inl ⟨h5, rfl, h⟩))))
  by_cases h6 : k = 6
  ·rw [if_neg h1, if_neg h2, if_neg h3, if_neg h4, if_neg h5, if_pos h6] at h; simp only [Ns.mk.injEq] at h; exact .inr (.inr (.inr (.inr (.inr (.inr (.inl ⟨h6, h⟩))))))
  ·rw [if_neg h1, if_neg h2, if_neg h3, if_neg h4, if_neg h5, if_neg h6] at h; simp only [nz, Ns.mk.injEq] at h
   exact .inr (.inr (.inr (.inr (.inr (.inr (.inr ⟨by simpa using h1, by simpa using h2, by simpa using h3, by simpa using h4, by simpa using h5, by simpa using h6, h⟩))))))
 clear h
 rcases hc with ⟨rfl, rfl, rfl, rfl, rfl, rfl, rfl⟩ | ⟨rfl, rfl, rfl, rfl, rfl, rfl, rfl⟩ | ⟨rfl, rfl, rfl, rfl, rfl, rfl, rfl⟩ | ⟨rfl, rfl, rfl, rfl, rfl, rfl, rfl⟩ | ⟨rfl, rfl, rfl, rfl, rfl, rfl, rfl, rfl⟩ | ⟨rfl, rfl, rfl, rfl, rfl, rfl, rfl, rfl⟩ | ⟨rfl, rfl, rfl, rfl, rfl, rfl, rfl⟩ | ⟨h1, h2, h3, h4, h5, h6, rfl, rfl, rfl, rfl, rfl, rfl⟩
 ·go_enter Tryz.func75, Tryz.ntmps75
  go_wp2
  exact bodyPost_ret (v := .agg #[.int .i64 o, .int .i64 a, .int .i64 y, .int .i64 d, .int .i64 q, .int .i64 p]) (by simp [results, Tryz.results75, go_sem]) rfl ⟨rfl, ((Below.refl _ _).alloc (Nat.le_refl _) _).alloc (by simp) _⟩
 ·go_enter Tryz.func75, Tryz.ntmps75
  go_wp2
  exact bodyPost_ret (v := .agg #[.int .i64 o, .int .i64 q, .int .i64 p, .int .i64 0, .int .i64 0, .int .i64 0]) (by simp [results, Tryz.results75, go_sem]) rfl ⟨rfl, ((Below.refl _ _).alloc (Nat.le_refl _) _).alloc (by simp) _⟩
 ·go_enter Tryz.func75, Tryz.ntmps75
  go_wp2
  exact bodyPost_ret (v := .agg #[.int .i64 o, .int .i64 0, .int .i64 0, .int .i64 0, .int .i64 0, .int .i64 0]) (by simp [results, Tryz.results75, go_sem]) rfl ⟨rfl, ((Below.refl _ _).alloc (Nat.le_refl _) _).alloc (by simp) _⟩
 ·go_enter Tryz.func75, Tryz.ntmps75
  go_wp2
  exact bodyPost_ret (v := .agg #[.int .i64 a, .int .i64 y, .int .i64 l, .int .i64 s, .int .i64 n, .int .i64 0]) (by simp [results, Tryz.results75, go_sem]) rfl ⟨rfl, ((Below.refl _ _).alloc (Nat.le_refl _) _).alloc (by simp) _⟩
 ·go_enter Tryz.func75, Tryz.ntmps75
  go_wp2
  exact bodyPost_ret (v := .agg #[.int .i64 1, .int .i64 0, .int .i64 0, .int .i64 0, .int .i64 0, .int .i64 0]) (by simp [results, Tryz.results75, go_sem]) rfl ⟨rfl, ((Below.refl _ _).alloc (Nat.le_refl _) _).alloc (by simp) _⟩
 ·go_enter Tryz.func75, Tryz.ntmps75
  go_wp2
  exact bodyPost_ret (v := .agg #[.int .i64 0, .int .i64 0, .int .i64 0, .int .i64 0, .int .i64 0, .int .i64 0]) (by simp [results, Tryz.results75, go_sem]) rfl ⟨rfl, ((Below.refl _ _).alloc (Nat.le_refl _) _).alloc (by simp) _⟩
 ·go_enter Tryz.func75, Tryz.ntmps75
  go_wp2
  exact bodyPost_ret (v := .agg #[.int .i64 z, .int .i64 t, .int .i64 o, .int .i64 q, .int .i64 p, .int .i64 0]) (by simp [results, Tryz.results75, go_sem]) rfl ⟨rfl, ((Below.refl _ _).alloc (Nat.le_refl _) _).alloc (by simp) _⟩
 ·go_enter Tryz.func75, Tryz.ntmps75
  go_wp2
  exact bodyPost_ret (v := .agg #[.int .i64 0, .int .i64 0, .int .i64 0, .int .i64 0, .int .i64 0, .int .i64 0]) (by simp [results, Tryz.results75, go_sem]) rfl ⟨rfl, ((Below.refl _ _).alloc (Nat.le_refl _) _).alloc (by simp) _⟩
end Go.Proofs.YtbeimapldejgmaaGreat.rec
end
section
namespace Go.Proofs.YtbeimapldejgmaaGreat.rec
open Go.RowKit Go.Proofs.YtbeimapldejgmaaGreat
open Go.Proofs.YtbeimapldejgmaaGreat.frame (inR)
theorem run_eq13 (f g : Rc) (hf : f.fine) (hg : g.fine) (W : World) :
  (Op.equalIn 10000 29 (.agg (rc f)) (.agg (rc g))).run Tryz.prog W = .ok (decide (f = g)) W := by
 have c1 : Tryz.prog.cellsOf 2 = 1 := by kernel_rfl
 have c3 : Tryz.prog.cellsOf 3 = 1 := by kernel_rfl
 have cb : Tryz.prog.cellsOf 4 = 1 := by kernel_rfl
 have kl : ∀ f : Rc, f.fine → Tryz.prog.keyLits 3 29 (rc f).toList = some [.int .i64 f.k, .int .i64 f.o, .int .i64 f.a, .int .i64 f.y, .int .i64 f.d, .int .i64 f.q, .int .i64 f.p, .int .i64 f.l, .int .i64 f.s, .int .i64 f.n, .bool f.on, .int .i64 f.z, .int .i64 f.t] := fun f ⟨h0, h1, h2, h3, h4, h5, h6, h7, h8, h9, h10, h11⟩ => by
  rw [kl_struct 2 _ Tryz.underlying29 (by kernel_rfl) (by kernel_rfl)]
  simp [rc, c1, c3, cb, kl_int 1 _ Tryz.underlying2, kl_int 1 _ Tryz.underlying3, kl_bool 1 _ Tryz.underlying4, wf64 h0, wf64 h1, wf64 h2, wf64 h3, wf64 h4, wf64 h5, wf64 h6, wf64 h7, wf64 h8, wf64 h9, wf64 h10, wf64 h11]
 refine run_eq_by (by kernel_rfl) 3 (by kernel_rfl) (by kernel_rfl) (kl f hf) (kl g hg) _ ?_ W
 obtain ⟨k, o, a, y, d, q, p, l, s, n, on, z, t⟩ := f
 obtain ⟨k', o', a', y', d', q', p', l', s', n', on', z', t'⟩ := g
 simp
theorem eq13_of {k o a y d q p l s n : Int} {on : Bool} {z t : Int} {k' o' a' y' d' q' p' l' s' n' : Int} {on' : Bool} {z' t' : Int} {f g : Rc} {r : Bool} (h : (⟨k, o, a, y, d, q, p, l, s, n, on, z, t⟩ : Rc) = f) (h' : (⟨k', o', a', y', d', q', p', l', s', n', on', z', t'⟩ : Rc) = g) (hf : f.fine) (hg : g.fine) (hr : decide (f = g) = r) (W : World) :
  (Op.equalIn 10000 29 (.agg #[.int .i64 k, .int .i64 o, .int .i64 a, .int .i64 y, .int .i64 d, .int .i64 q, .int .i64 p, .int .i64 l, .int .i64 s, .int .i64 n, .bool on, .int .i64 z, .int .i64 t]) (.agg #[.int .i64 k', .int .i64 o', .int .i64 a', .int .i64 y', .int .i64 d', .int .i64 q', .int .i64 p', .int .i64 l', .int .i64 s', .int .i64 n', .bool on', .int .i64 z', .int .i64 t'])).run Tryz.prog W = .ok r W := by
 subst h h'
 rw [← hr]
 exact run_eq13 ⟨k, o, a, y, d, q, p, l, s, n, on, z, t⟩ ⟨k', o', a', y', d', q', p', l', s', n', on', z', t'⟩ hf hg W
end Go.Proofs.YtbeimapldejgmaaGreat.rec
end
section
namespace Go.Proofs.YtbeimapldejgmaaGreat
open Go.RowKit
abbrev RecD : Type := rec.Rc
def rdRec : Rd RecD := fun _ _ cs r => cs = (rec.rc r).toList ∧ r.fine
theorem of_rec : OfTrod Tryz.prog 29 rdRec := fun H enc w fuel cs x h => by
 have hl := struct_len Tryz.underlying29 h
 rw [show Tryz.prog.cellsOf 29 = 13 by kernel_rfl] at hl
 obtain ⟨k, e0, h0⟩ := of_field Tryz.underlying29 h 0 _ rfl 1 (by kernel_rfl) (of_int Tryz.underlying3)
 obtain ⟨o, e1, h1⟩ := of_field Tryz.underlying29 h 1 _ rfl 1 (by kernel_rfl) (of_int Tryz.underlying2)
 obtain ⟨a, e2, h2⟩ := of_field Tryz.underlying29 h 2 _ rfl 1 (by kernel_rfl) (of_int Tryz.underlying3)
 obtain ⟨y, e3, h3⟩ := of_field Tryz.underlying29 h 3 _ rfl 1 (by kernel_rfl) (of_int Tryz.underlying3)
 obtain ⟨d, e4, h4⟩ := of_field Tryz.underlying29 h 4 _ rfl 1 (by kernel_rfl) (of_int Tryz.underlying3)
 obtain ⟨q, e5, h5⟩ := of_field Tryz.underlying29 h 5 _ rfl 1 (by kernel_rfl) (of_int Tryz.underlying2)
 obtain ⟨p, e6, h6⟩ := of_field Tryz.underlying29 h 6 _ rfl 1 (by kernel_rfl) (of_int Tryz.underlying2)
 obtain ⟨l, e7, h7⟩ := of_field Tryz.underlying29 h 7 _ rfl 1 (by kernel_rfl) (of_int Tryz.underlying2)
 obtain ⟨s, e8, h8⟩ := of_field Tryz.underlying29 h 8 _ rfl 1 (by kernel_rfl) (of_int Tryz.underlying2)
 obtain ⟨n, e9, h9⟩ := of_field Tryz.underlying29 h 9 _ rfl 1 (by kernel_rfl) (of_int Tryz.underlying2)
 obtain ⟨on, e10⟩ := of_field Tryz.underlying29 h 10 _ rfl 1 (by kernel_rfl) (of_bool Tryz.underlying4)
 obtain ⟨z, e11, h11⟩ := of_field Tryz.underlying29 h 11 _ rfl 1 (by kernel_rfl) (of_int Tryz.underlying2)
 obtain ⟨t, e12, h12⟩ := of_field Tryz.underlying29 h 12 _ rfl 1 (by kernel_rfl) (of_int Tryz.underlying3)
 match cs, hl with
 | [c0, c1, c2, c3, c4, c5, c6, c7, c8, c9, c10, c11, c12], _ =>
  simp [rdBool] at e0 e1 e2 e3 e4 e5 e6 e7 e8 e9 e10 e11 e12
  subst e0 e1 e2 e3 e4 e5 e6 e7 e8 e9 e10 e11 e12
  exact ⟨⟨k, o, a, y, d, q, p, l, s, n, on, z, t⟩, rfl, inI_of_wf h0, inI_of_wf h1, inI_of_wf h2, inI_of_wf h3, inI_of_wf h4, inI_of_wf h5, inI_of_wf h6, inI_of_wf h7, inI_of_wf h8, inI_of_wf h9, inI_of_wf h11, inI_of_wf h12⟩
end Go.Proofs.YtbeimapldejgmaaGreat
end
section
namespace Go.Proofs.YtbeimapldejgmaaGreat.rec
open Go.RowKit Go.Proofs.YtbeimapldejgmaaGreat
set_option maxRecDepth 20000
set_option maxHeartbeats 1000000
theorem rid_is (x : Int) {b : Bool} (h : mayOrder x = b) (w : World) : Calls Tryz.prog 57 #[.int .i64 x] w fun e w' => e = .returned (.bool b) ∧ w = w' := by
 have hc : ∃ r, Hid (mayOrder x = r) ∧ ((x ≤ 0 ∧ r = false) ∨ (0 < x ∧ 1000000000000 < x ∧ r = false) ∨ (0 < x ∧ x ≤ 1000000000000 ∧ r = true)) := by
  refine ⟨_, Lib.hid rfl, ?_⟩
  simp only [mayOrder, decide_eq_false_iff_not, decide_eq_true_eq]
  omega
 obtain ⟨r, HR, hc⟩ := hc
 obtain rfl : r = b := HR.out.symm.trans h
 clear h
 rcases hc with ⟨h0, rfl⟩ | ⟨h0, h1, rfl⟩ | ⟨h0, h1, rfl⟩
 all_goals
  clear HR
  go_enter Tryz.func57, Tryz.ntmps57
  go_wp2
  go_ret
  exact ⟨retB (by first | rfl | (simp; omega)), rfl⟩
end Go.Proofs.YtbeimapldejgmaaGreat.rec
end
section
namespace Go.Proofs.YtbeimapldejgmaaGreat.rec
open Go.RowKit Go.Proofs.YtbeimapldejgmaaGreat
set_option maxRecDepth 20000
set_option maxHeartbeats 1000000
theorem rright_1 (o a y d q p l s n z t : Int) (on : Bool) {b : Bool} (hf : (⟨1, o, a, y, d, q, p, l, s, n, on, z, t⟩ : Rc).fine) (h : right ⟨1, o, a, y, d, q, p, l, s, n, on, z, t⟩ = b) (w : World) : Calls Tryz.prog 26 #[.agg #[.int .i64 1, .int .i64 o, .int .i64 a, .int .i64 y, .int .i64 d, .int .i64 q, .int .i64 p, .int .i64 l, .int .i64 s, .int .i64 n, .bool on, .int .i64 z, .int .i64 t]] w fun e w' => e = .returned (.bool b) ∧ Below w.heap.size w w' := by
 have HH : Hid ((okR ⟨1, o, a, y, d, q, p, l, s, n, on, z, t⟩ && decide ((⟨1, o, a, y, d, q, p, l, s, n, on, z, t⟩ : Rc) = want ⟨1, o, a, y, d, q, p, l, s, n, on, z, t⟩)) = b) := Lib.hid ((right_eq _).trans h)
 have HW : Hid (want ⟨1, o, a, y, d, q, p, l, s, n, on, z, t⟩ = ⟨1, o, a, y, d, q, p, 0, 0, 0, false, 0, 0⟩) := Lib.hid (by simp [want, *])
 have HF := Lib.hid hf
 have HFW : Hid ((⟨1, o, a, y, d, q, p, 0, 0, 0, false, 0, 0⟩ : Rc).fine) := Lib.hid (by simp only [Rc.fine] at hf ⊢; simp only [hf, in0, and_self])
 have hm' : True := trivial
 clear h hf
 rcases hmm : mayOrder o with _ | _
 ·have hm' := hmm
  simp only [mayOrder, decide_eq_false_iff_not] at hm'
  have HM := Lib.hid hmm
  clear hmm
  have hok : okR ⟨1, o, a, y, d, q, p, l, s, n, on, z, t⟩ = false := by simp [okR]; omega
  obtain rfl : false = b := by rw [← HH.out, hok]; rfl
  clear hok HH HW hm'
  go_enter Tryz.func26, Tryz.ntmps26
  go_wp2_with fail
  refine Calls.mono (rid_is o HM.out _) ?_
  rintro e w' ⟨rfl, rfl⟩
  go_wp2_with fail
  go_ret
  exact ⟨rfl, ((Below.refl _ _).alloc (Nat.le_refl _) _).alloc (by simp) _⟩
 ·have hm' := hmm
  simp only [mayOrder, decide_eq_true_eq] at hm'
  have HM := Lib.hid hmm
  clear hmm
  by_cases ht8 : 0 ≤ a
  ·by_cases ht7 : a < 8
   ·by_cases ht6 : 0 ≤ y
    ·by_cases ht5 : y < 8
     ·by_cases ht4 : 1 ≤ d
      ·by_cases ht3 : d ≤ 2
       ·by_cases ht2 : 0 < q
        ·by_cases ht1 : 0 < p
         ·have hok : okR ⟨1, o, a, y, d, q, p, l, s, n, on, z, t⟩ = true := by simp [okR]; omega
          have hq : decide ((⟨1, o, a, y, d, q, p, l, s, n, on, z, t⟩ : Rc) = ⟨1, o, a, y, d, q, p, 0, 0, 0, false, 0, 0⟩) = b := by rw [← HH.out, hok, HW.out]; rfl
          have heq : ∀ W, (Op.equalIn 10000 29 (.agg #[.int .i64 1, .int .i64 o, .int .i64 a, .int .i64 y, .int .i64 d, .int .i64 q, .int .i64 p, .int .i64 l, .int .i64 s, .int .i64 n, .bool on, .int .i64 z, .int .i64 t]) (.agg #[.int .i64 1, .int .i64 o, .int .i64 a, .int .i64 y, .int .i64 d, .int .i64 q, .int .i64 p, .int .i64 0, .int .i64 0, .int .i64 0, .bool false, .int .i64 0, .int .i64 0])).run Tryz.prog W = .ok b W := fun W => eq13_of rfl rfl HF.out HFW.out hq W
          clear hok hq HH HW hm'
          go_enter Tryz.func26, Tryz.ntmps26
          go_wp2_with fail
          refine Calls.mono (rid_is o HM.out _) ?_
          rintro e w' ⟨rfl, rfl⟩
          go_wp2_with fail
          go_ret
          exact ⟨rfl, ((Below.refl _ _).alloc (Nat.le_refl _) _).alloc (by simp) _⟩
         ·have hn : p ≤ 0 := by omega
          clear ht1
          have hok : okR ⟨1, o, a, y, d, q, p, l, s, n, on, z, t⟩ = false := by simp [okR]; omega
          obtain rfl : false = b := by rw [← HH.out, hok]; rfl
          clear hok HH HW hm'
          go_enter Tryz.func26, Tryz.ntmps26
          go_wp2_with fail
          refine Calls.mono (rid_is o HM.out _) ?_
          rintro e w' ⟨rfl, rfl⟩
          go_wp2_with fail
          go_ret
          exact ⟨rfl, ((Below.refl _ _).alloc (Nat.le_refl _) _).alloc (by simp) _⟩
        ·have hn : q ≤ 0 := by omega
         clear ht2
         have hok : okR ⟨1, o, a, y, d, q, p, l, s, n, on, z, t⟩ = false := by simp [okR]; omega
         obtain rfl : false = b := by rw [← HH.out, hok]; rfl
         clear hok HH HW hm'
         go_enter Tryz.func26, Tryz.ntmps26
         go_wp2_with fail
         refine Calls.mono (rid_is o HM.out _) ?_
         rintro e w' ⟨rfl, rfl⟩
         go_wp2_with fail
         go_ret
         exact ⟨rfl, ((Below.refl _ _).alloc (Nat.le_refl _) _).alloc (by simp) _⟩
       ·have hn : 2 < d := by omega
        clear ht3
        have hok : okR ⟨1, o, a, y, d, q, p, l, s, n, on, z, t⟩ = false := by simp [okR]; omega
        obtain rfl : false = b := by rw [← HH.out, hok]; rfl
        clear hok HH HW hm'
        go_enter Tryz.func26, Tryz.ntmps26
        go_wp2_with fail
        refine Calls.mono (rid_is o HM.out _) ?_
        rintro e w' ⟨rfl, rfl⟩
        go_wp2_with fail
        go_ret
        exact ⟨rfl, ((Below.refl _ _).alloc (Nat.le_refl _) _).alloc (by simp) _⟩
      ·have hn : d < 1 := by omega
       clear ht4
       have hok : okR ⟨1, o, a, y, d, q, p, l, s, n, on, z, t⟩ = false := by simp [okR]; omega
       obtain rfl : false = b := by rw [← HH.out, hok]; rfl
       clear hok HH HW hm'
       go_enter Tryz.func26, Tryz.ntmps26
       go_wp2_with fail
       refine Calls.mono (rid_is o HM.out _) ?_
       rintro e w' ⟨rfl, rfl⟩
       go_wp2_with fail
       go_ret
       exact ⟨rfl, ((Below.refl _ _).alloc (Nat.le_refl _) _).alloc (by simp) _⟩
     ·have hn : 8 ≤ y := by omega
      clear ht5
      have hok : okR ⟨1, o, a, y, d, q, p, l, s, n, on, z, t⟩ = false := by simp [okR]; omega
      obtain rfl : false = b := by rw [← HH.out, hok]; rfl
      clear hok HH HW hm'
      go_enter Tryz.func26, Tryz.ntmps26
      go_wp2_with fail
      refine Calls.mono (rid_is o HM.out _) ?_
      rintro e w' ⟨rfl, rfl⟩
      go_wp2_with fail
      go_ret
      exact ⟨rfl, ((Below.refl _ _).alloc (Nat.le_refl _) _).alloc (by simp) _⟩
    ·have hn : y < 0 := by omega
     clear ht6
     have hok : okR ⟨1, o, a, y, d, q, p, l, s, n, on, z, t⟩ = false := by simp [okR]; omega
     obtain rfl : false = b := by rw [← HH.out, hok]; rfl
     clear hok HH HW hm'
     go_enter Tryz.func26, Tryz.ntmps26
     go_wp2_with fail
     refine Calls.mono (rid_is o HM.out _) ?_
     rintro e w' ⟨rfl, rfl⟩
     go_wp2_with fail
     go_ret
     exact ⟨rfl, ((Below.refl _ _).alloc (Nat.le_refl _) _).alloc (by simp) _⟩
   ·have hn : 8 ≤ a := by omega
    clear ht7
    have hok : okR ⟨1, o, a, y, d, q, p, l, s, n, on, z, t⟩ = false := by simp [okR]; omega
    obtain rfl : false = b := by rw [← HH.out, hok]; rfl
    clear hok HH HW hm'
    go_enter Tryz.func26, Tryz.ntmps26
    go_wp2_with fail
    refine Calls.mono (rid_is o HM.out _) ?_
    rintro e w' ⟨rfl, rfl⟩
    go_wp2_with fail
    go_ret
    exact ⟨rfl, ((Below.refl _ _).alloc (Nat.le_refl _) _).alloc (by simp) _⟩
  ·have hn : a < 0 := by omega
   clear ht8
   have hok : okR ⟨1, o, a, y, d, q, p, l, s, n, on, z, t⟩ = false := by simp [okR]; omega
   obtain rfl : false = b := by rw [← HH.out, hok]; rfl
   clear hok HH HW hm'
   go_enter Tryz.func26, Tryz.ntmps26
   go_wp2_with fail
   refine Calls.mono (rid_is o HM.out _) ?_
   rintro e w' ⟨rfl, rfl⟩
   go_wp2_with fail
   go_ret
   exact ⟨rfl, ((Below.refl _ _).alloc (Nat.le_refl _) _).alloc (by simp) _⟩
theorem rright_2 (o a y d q p l s n z t : Int) (on : Bool) {b : Bool} (hf : (⟨2, o, a, y, d, q, p, l, s, n, on, z, t⟩ : Rc).fine) (h : right ⟨2, o, a, y, d, q, p, l, s, n, on, z, t⟩ = b) (w : World) : Calls Tryz.prog 26 #[.agg #[.int .i64 2, .int .i64 o, .int .i64 a, .int .i64 y, .int .i64 d, .int .i64 q, .int .i64 p, .int .i64 l, .int .i64 s, .int .i64 n, .bool on, .int .i64 z, .int .i64 t]] w fun e w' => e = .returned (.bool b) ∧ Below w.heap.size w w' := by
 have HH : Hid ((okR ⟨2, o, a, y, d, q, p, l, s, n, on, z, t⟩ && decide ((⟨2, o, a, y, d, q, p, l, s, n, on, z, t⟩ : Rc) = want ⟨2, o, a, y, d, q, p, l, s, n, on, z, t⟩)) = b) := Lib.hid ((right_eq _).trans h)
 have HW : Hid (want ⟨2, o, a, y, d, q, p, l, s, n, on, z, t⟩ = ⟨2, o, 0, 0, 0, q, p, 0, 0, 0, false, 0, 0⟩) := Lib.hid (by simp [want, *])
 have HF := Lib.hid hf
 have HFW : Hid ((⟨2, o, 0, 0, 0, q, p, 0, 0, 0, false, 0, 0⟩ : Rc).fine) := Lib.hid (by simp only [Rc.fine] at hf ⊢; simp only [hf, in0, and_self])
 have hm' : True := trivial
 clear h hf
 rcases hmm : mayOrder o with _ | _
 ·have hm' := hmm
  simp only [mayOrder, decide_eq_false_iff_not] at hm'
  have HM := Lib.hid hmm
  clear hmm
  have hok : okR ⟨2, o, a, y, d, q, p, l, s, n, on, z, t⟩ = false := by simp [okR]; omega
  obtain rfl : false = b := by rw [← HH.out, hok]; rfl
  clear hok HH HW hm'
  go_enter Tryz.func26, Tryz.ntmps26
  go_wp2_with fail
  refine Calls.mono (rid_is o HM.out _) ?_
  rintro e w' ⟨rfl, rfl⟩
  go_wp2_with fail
  go_ret
  exact ⟨rfl, ((Below.refl _ _).alloc (Nat.le_refl _) _).alloc (by simp) _⟩
 ·have hm' := hmm
  simp only [mayOrder, decide_eq_true_eq] at hm'
  have HM := Lib.hid hmm
  clear hmm
  by_cases ht2 : 0 < q
  ·by_cases ht1 : 0 < p
   ·have hok : okR ⟨2, o, a, y, d, q, p, l, s, n, on, z, t⟩ = true := by simp [okR]; omega
    have hq : decide ((⟨2, o, a, y, d, q, p, l, s, n, on, z, t⟩ : Rc) = ⟨2, o, 0, 0, 0, q, p, 0, 0, 0, false, 0, 0⟩) = b := by rw [← HH.out, hok, HW.out]; rfl
    have heq : ∀ W, (Op.equalIn 10000 29 (.agg #[.int .i64 2, .int .i64 o, .int .i64 a, .int .i64 y, .int .i64 d, .int .i64 q, .int .i64 p, .int .i64 l, .int .i64 s, .int .i64 n, .bool on, .int .i64 z, .int .i64 t]) (.agg #[.int .i64 2, .int .i64 o, .int .i64 0, .int .i64 0, .int .i64 0, .int .i64 q, .int .i64 p, .int .i64 0, .int .i64 0, .int .i64 0, .bool false, .int .i64 0, .int .i64 0])).run Tryz.prog W = .ok b W := fun W => eq13_of rfl rfl HF.out HFW.out hq W
    clear hok hq HH HW hm'
    go_enter Tryz.func26, Tryz.ntmps26
    go_wp2_with fail
    refine Calls.mono (rid_is o HM.out _) ?_
    rintro e w' ⟨rfl, rfl⟩
    go_wp2_with fail
    go_ret
    exact ⟨rfl, ((Below.refl _ _).alloc (Nat.le_refl _) _).alloc (by simp) _⟩
   ·have hn : p ≤ 0 := by omega
    clear ht1
    have hok : okR ⟨2, o, a, y, d, q, p, l, s, n, on, z, t⟩ = false := by simp [okR]; omega
    obtain rfl : false = b := by rw [← HH.out, hok]; rfl
    clear hok HH HW hm'
    go_enter Tryz.func26, Tryz.ntmps26
    go_wp2_with fail
    refine Calls.mono (rid_is o HM.out _) ?_
    rintro e w' ⟨rfl, rfl⟩
    go_wp2_with fail
    go_ret
    exact ⟨rfl, ((Below.refl _ _).alloc (Nat.le_refl _) _).alloc (by simp) _⟩
  ·have hn : q ≤ 0 := by omega
   clear ht2
   have hok : okR ⟨2, o, a, y, d, q, p, l, s, n, on, z, t⟩ = false := by simp [okR]; omega
   obtain rfl : false = b := by rw [← HH.out, hok]; rfl
   clear hok HH HW hm'
   go_enter Tryz.func26, Tryz.ntmps26
   go_wp2_with fail
   refine Calls.mono (rid_is o HM.out _) ?_
   rintro e w' ⟨rfl, rfl⟩
   go_wp2_with fail
   go_ret
   exact ⟨rfl, ((Below.refl _ _).alloc (Nat.le_refl _) _).alloc (by simp) _⟩
end Go.Proofs.YtbeimapldejgmaaGreat.rec
end
