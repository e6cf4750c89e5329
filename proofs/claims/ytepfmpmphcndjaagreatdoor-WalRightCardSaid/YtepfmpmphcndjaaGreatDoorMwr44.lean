/-
  WalRm, WalR2, WalK
-/
import Derived.Test.YtepfmpmphcndjaaGreatDoorMwr39
import Derived.Test.YtepfmpmphcndjaaGreatDoorMwr37
import Derived.Test.YtepfmpmphcndjaaGreatDoorMwr43
set_option linter.unusedVariables false
set_option linter.unusedSimpArgs false
section
namespace Go.Proofs.YtepfmpmphcndjaaGreatDoor.wal
set_option maxRecDepth 20000
open Go.RowKit Go.Proofs.YtepfmpmphcndjaaGreatDoor Go.Proofs.YtepfmpmphcndjaaGreatDoor.frame Go.Proofs.YtepfmpmphcndjaaGreatDoor.disk
theorem value_cons (c : Nat) (l : List Nat) : value (c :: l) = (c - 48) * 10 ^ l.length + value l := by
 have h : ∀ (l : List Nat) (a : Nat), l.foldl (fun a c => a * 10 + (c - 48)) a = a * 10 ^ l.length + l.foldl (fun a c => a * 10 + (c - 48)) 0 := by
  intro l
  induction l with
  |nil => intro a; simp
  |cons x l ih =>
   intro a
   rw [List.foldl_cons, ih, List.foldl_cons, ih (0 * 10 + (x - 48)), List.length_cons, Nat.pow_succ, Nat.add_mul, Nat.mul_assoc, Nat.mul_comm 10, Nat.zero_mul, Nat.zero_add, Nat.add_assoc]
 unfold value
 rw [List.foldl_cons, h]
 simp
theorem less_value : ∀ (l m : List UInt8), l.length = m.length → (l.map UInt8.toNat).all digit = true → (m.map UInt8.toNat).all digit = true → l < m → value (l.map UInt8.toNat) < value (m.map UInt8.toNat)
 | [], [], _, _, _, h => absurd h (List.lt_irrefl _)
 | [], _ :: _, hl, _, _, _ => by simp at hl
 | _ :: _, [], hl, _, _, _ => by simp at hl
 |a :: l, b :: m, hl, h1, h2, h => by
  have hl' : l.length = m.length := by simpa using hl
  simp only [List.map_cons, List.all_cons, Bool.and_eq_true] at h1 h2
  rw [List.map_cons, List.map_cons, value_cons, value_cons, List.length_map, List.length_map, hl']
  have d1 := h1.1; have d2 := h2.1
  simp only [digit, Bool.and_eq_true, decide_eq_true_eq] at d1 d2
  have v1 := (value_dg _ h1.2).2
  rw [List.length_map, hl'] at v1
  rcases List.cons_lt_cons_iff.1 h with hab | ⟨e, h4⟩
  ·have hab := UInt8.lt_iff_toNat_lt.1 hab
   have h3 : (a.toNat - 48 + 1) * 10 ^ m.length ≤ (b.toNat - 48) * 10 ^ m.length := Nat.mul_le_mul_right _ (by omega)
   rw [Nat.add_mul, Nat.one_mul] at h3
   omega
  ·subst e
   have := less_value l m hl' h1.2 h2.2 h4
   omega
theorem drop_same {g u lsn : Int} : ∀ (l : List Int) (d : DiskD), l.Pairwise (· < ·) → (∀ x ∈ l, x ≤ u) → dropB g u lsn l d = dropA g u lsn l d
 | [], d, _, _ => rfl
 |a :: r, d, hp, hu => by
  have hp' := List.pairwise_cons.1 hp
  have ih := fun d => drop_same (g := g) (lsn := lsn) r d hp'.2 (fun x hx => hu x (List.mem_cons_of_mem _ hx))
  have ht : ∀ d', (if lsn < (match r with | b :: _ => b - 1 | [] => u) then (d', (0 : Int)) else dropA g u lsn r d') = dropA g u lsn r d' := fun d' => by
   cases r with
   |nil => simp only [dropA]; split <;> rfl
   |cons b r =>
    have hb := hu b (by simp)
    by_cases hl : lsn < b - 1
    ·rw [if_pos hl, dropA_cons, if_pos]
     cases r with
     |nil => simp only; omega
     |cons c r =>
      have := (List.pairwise_cons.1 hp'.2).1 c (by simp)
      simp only; omega
    ·rw [if_neg hl]
  rw [dropB_cons, dropA_cons]
  by_cases hg : a = g
  ·rw [if_pos hg, if_pos hg, ih]; exact (ht d).symm
  ·rw [if_neg hg, if_neg hg, ih]
   cases r <;> rfl
theorem numOf_digits {s : ByteArray} (h : 0 < numOf s) : s.data.toList.length = 14 ∧ s.data.toList.take 4 = [108, 111, 103, 46] ∧ ((s.data.toList.drop 4).map UInt8.toNat).all digit = true ∧ numOf s = (value ((s.data.toList.drop 4).map UInt8.toNat) : Nat) := by
 unfold numOf numL at h ⊢
 split at h
 ·rename_i g
  obtain ⟨h1, h2, h3, h4⟩ := g
  rw [if_pos ⟨h1, h2, h3, h4⟩]
  unfold listOf at h1 h2 h3 ⊢
  rw [List.length_map] at h1
  rw [← List.map_drop] at h3 ⊢
  refine ⟨h1, ?_, h3, rfl⟩
  rw [← List.map_take] at h2
  exact (List.map_inj_right (f := UInt8.toNat) (l' := [108, 111, 103, 46]) (fun x y e => UInt8.toNat.inj e)).1 (h2.trans rfl)
 ·omega
theorem app_lt : ∀ (p l m : List UInt8), p ++ l < p ++ m → l < m
 | [], _, _, h => h
 |a :: p, l, m, h => by
  rcases List.cons_lt_cons_iff.1 h with h | ⟨_, h⟩
  ·exact absurd h (UInt8.lt_irrefl _)
  ·exact app_lt p l m h
theorem num_lt {a b : ByteArray} (h : nlt a b) (ha : 0 < numOf a) (hb : 0 < numOf b) : numOf a < numOf b := by
 obtain ⟨a1, a2, a3, a4⟩ := numOf_digits ha
 obtain ⟨b1, b2, b3, b4⟩ := numOf_digits hb
 have h' : a.data.toList < b.data.toList := by
  have : a.toList < b.toList := h
  rwa [ByteArray.toList_eq, ByteArray.toList_eq] at this
 rw [← List.take_append_drop 4 a.data.toList, ← List.take_append_drop 4 b.data.toList, a2, b2] at h'
 have := less_value _ _ (by rw [List.length_drop, List.length_drop, a1, b1]) a3 b3 (app_lt _ _ _ h')
 rw [a4, b4]; omega
theorem segs_rise (t : DiskD) : (segs t).Pairwise (· < ·) := by
 unfold segs
 split
 ·rename_i hr
  have hrow : Row t.files := ((good_iff none t.files).1 (by
   unfold rightB at hr; simp only [Bool.and_eq_true] at hr; exact hr.1.2)).2.1
  rw [List.pairwise_filter, List.pairwise_map]
  exact List.Pairwise.imp (fun h ha hb => num_lt h (of_decide_eq_true ha) (of_decide_eq_true hb)) hrow
 ·exact List.Pairwise.nil
theorem dropR_is (s : Wl) (t : DiskD) (lsn : Int) : dropR s t lsn = dropL s t lsn := by
 unfold dropR dropL
 split
 ·rename_i hf
  refine drop_same _ _ (segs_rise t) (fun x hx => ?_)
  unfold fitsL at hf
  simp only [Bool.and_eq_true, Bool.not_eq_true', List.any_eq_false] at hf
  have := hf.2.1 x hx
  simp at this; omega
 ·rfl
end Go.Proofs.YtepfmpmphcndjaaGreatDoor.wal
end
section
namespace Go.Proofs.YtepfmpmphcndjaaGreatDoor.wal
open Go.RowKit Go.Proofs.YtepfmpmphcndjaaGreatDoor Go.Proofs.YtepfmpmphcndjaaGreatDoor.frame Go.Proofs.YtepfmpmphcndjaaGreatDoor.disk
set_option maxRecDepth 20000
theorem v_rput (v : Jv) (s : Wl) (k b0 b1 b2 b3 b4 b5 : Int) (S : Nat → Prop)  (w : World) (h0 : InJ w S v s) (hS : ∀ k, S k → k < w.heap.size) (hk : inI k) (hb : inI b0 ∧ inI b1 ∧ inI b2 ∧ inI b3 ∧ inI b4 ∧ inI b5) : Calls Tryz.prog 12 #[.agg (jc v s), .int .i64 k, .agg #[.int .i64 b0, .int .i64 b1, .int .i64 b2, .int .i64 b3, .int .i64 b4, .int .i64 b5]] w fun e w' => ∃ x : Jv, e = .returned (.tuple #[.agg (jc x (putW s k b0 b1 b2 b3 b4 b5).1), .int .i64 (putW s k b0 b1 b2 b3 b4 b5).2]) ∧ Below w.heap.size w w' ∧ (fun w' => InJ w' (Nw S w w') x (putW s k b0 b1 b2 b3 b4 b5).1) w' :=
 have h := h0.all hS
 calls_q (fn := Tryz.f12) (r := fun (x : Jv) => .tuple #[.agg (jc x (putW s k b0 b1 b2 b3 b4 b5).1), .int .i64 (putW s k b0 b1 b2 b3 b4 b5).2]) (Q := fun (x : Jv) => fun w' => InJ w' (Nw S w w') x (putW s k b0 b1 b2 b3 b4 b5).1) (t := let k0 := s.ws ++ [newF s k b0 b1 b2 b3 b4 b5]; let k1 : (Option Addr × Nat) → List Fact := fun x => [ownF rdFrame 9 72 x.1 s.ws.length x.2 s.ws]; let k2 : (Option Addr × Nat) → List Fact := fun x => [ownF rdFrame 9 72 x.1 (k0.length) x.2 k0]; let k3 : (Nat) → List Fact := fun x => [cellsF x (fc (newF s k b0 b1 b2 b3 b4 b5)) 72]; let k4 := Option Addr × Nat; let k5 : (Nat) → Value := fun x => .slice (some ⟨x, 0, none⟩) 1 1; let k6 : (Nat) → List Fact := fun x => [ownF rdFrame 9 72 (some ⟨x, 0, none⟩) 0 0 ([])]; let k7 : (Nat) → Value := fun x => .slice (some ⟨x, 0, none⟩) 0 0; let k8 : Value := .int .i64 (s.n + 1); .cs (right s) (.k (.s (.k .z) (.k (.s .z (.s .z (.s .z (.o [0] (.three (.w (Nat) none k7 k6 (fun x6 => .two (.two (.w k4 (some 0) (fun x => .slice x.1 s.ws.length x.2) k1 (fun x7 => .w (Nat) none k5 k3 (fun x8 => .w k4 (some 1) (fun x => .slice x.1 (k0.length) x.2) k2 (fun x9 => .e k8 .z)))) (.w (Nat) none k5 k3 (fun x10 => .w k4 (some 1) (fun x => .slice x.1 s.ws.length x.2) k1 (fun x11 => .w k4 (some 0) (fun x => .slice x.1 (k0.length) x.2) k2 (fun x12 => .e k8 .z))))) (.w (Nat) none k5 k3 (fun x13 => .w k4 (some 1) (fun x => .slice x.1 s.ws.length x.2) k1 (fun x14 => .w k4 (some 0) (fun x => .slice x.1 (k0.length) x.2) k2 (fun x15 => .e k8 .z)))))) (.two (.w (Nat) none k7 k6 (fun x16 => .two (.w k4 (some 0) (fun x => .slice x.1 s.ws.length x.2) k1 (fun x17 => .w (Nat) none k5 k3 (fun x18 => .w k4 (some 1) (fun x => .slice x.1 (k0.length) x.2) k2 (fun x19 => .e k8 .z)))) (.w (Nat) none k5 k3 (fun x20 => .w k4 (some 1) (fun x => .slice x.1 s.ws.length x.2) k1 (fun x21 => .w k4 (some 0) (fun x => .slice x.1 (k0.length) x.2) k2 (fun x22 => .e k8 .z)))))) (.w (Nat) none k5 k3 (fun x23 => .w (Nat) none k7 k6 (fun x24 => .w k4 (some 0) (fun x => .slice x.1 s.ws.length x.2) k1 (fun x25 => .w k4 (some 0) (fun x => .slice x.1 (k0.length) x.2) k2 (fun x26 => .e k8 .z)))))) (.w (Nat) none k5 k3 (fun x27 => .two (.w (Nat) none k7 k6 (fun x28 => .w k4 (some 0) (fun x => .slice x.1 s.ws.length x.2) k1 (fun x29 => .w k4 (some 0) (fun x => .slice x.1 (k0.length) x.2) k2 (fun x30 => .e k8 .z)))) (.w (Nat) none k7 k6 (fun x31 => .w k4 (some 0) (fun x => .slice x.1 s.ws.length x.2) k1 (fun x32 => .w k4 (some 0) (fun x => .slice x.1 (k0.length) x.2) k2 (fun x33 => .e k8 .z)))))))))))))) (.k (.k .z))) (X :=
 let k0 := s.ws ++ [newF s k b0 b1 b2 b3 b4 b5]; let k1 := fc (newF s k b0 b1 b2 b3 b4 b5); let k2 := putW s k b0 b1 b2 b3 b4 b5; let k3 : (Option Addr × Nat) → List Fact := fun x => [ownF rdFrame 9 72 x.1 s.ws.length x.2 s.ws]; let k4 : (Option Addr × Nat) → List Fact := fun x => [ownF rdFrame 9 72 x.1 (k0.length) x.2 k0]; let k5 := (.int .i64 (IntKind.i64.wrap (s.n + 1)) : Value); let k6 := Option Addr × Nat; let k7 : (Nat) → Value := fun x => .slice (some ⟨x, 0, none⟩) 1 1; let k8 : (Nat) → List Fact := fun x => [ownF rdFrame 9 72 (some ⟨x, 0, none⟩) 0 0 ([])]; let k9 := Instr.buildSlice 22 1 #[(0, .agg k1)]; let k10 : (Nat) → Value := fun x => .slice (some ⟨x, 0, none⟩) 0 0; let k11 := Instr.buildSlice 22 0 #[]; let k12 := (.tuple #[.agg (jc v s), .int .i64 1] : Value); let k13 := decide ((s.ws.length : Int) ≥ 32); let k14 := decide (s.n > 1000000000); ∀ g0 : Nat, ∀ g1 : Nat, ∀ g2 : Nat, Gives Tryz.prog w [] 14 #[.agg (jc v s)] (.bool (right s)) ∧ ((right s) = true → ((decide (k < 1)) = true → ∃ x : Jv, k12 = .tuple #[.agg (jc x k2.1), .int .i64 k2.2] ∧ Concl w [] (fun w' => InJ w' (Nw S w w') x k2.1)) ∧ ((decide (k < 1)) = false → ((decide (k > 6)) = true → ∃ x : Jv, k12 = .tuple #[.agg (jc x k2.1), .int .i64 k2.2] ∧ Concl w [] (fun w' => InJ w' (Nw S w w') x k2.1)) ∧ ((decide (k > 6)) = false → (k14 = true → ∃ x : Jv, (.tuple #[.agg (jc v s), .int .i64 3] : Value) = .tuple #[.agg (jc x k2.1), .int .i64 k2.2] ∧ Concl w [] (fun w' => InJ w' (Nw S w w') x k2.1)) ∧ (k14 = false → (k13 = true → ∃ x : Jv, (.tuple #[.agg (jc v s), .int .i64 6] : Value) = .tuple #[.agg (jc x k2.1), .int .i64 k2.2] ∧ Concl w [] (fun w' => InJ w' (Nw S w w') x k2.1)) ∧ (k13 = false → ∀ g3 : Nat, (StepM Tryz.prog w [] k11 (fun _ => False) (Nat) k10 k8 ∧ ∀ x6 : Nat, let k15 : Option Addr := some ⟨x6, 0, none⟩; let k16 := Builtin.append_ #[22, 22] 22 #[.slice k15 0 0, .slice v.A s.ws.length v.c]; let k17 := (ownF rdFrame 9 72 k15 0 0 ([])).S; let k18 : List Fact := [ownF rdFrame 9 72 k15 0 0 ([])]; (((∀ x : Option Addr × Nat, Imp w [ownF rdFrame 9 72 x.1 s.ws.length x.2 s.ws] []) ∧ StepM Tryz.prog w k18 k16 k17 k6 (fun x => .slice x.1 s.ws.length x.2) k3 ∧ ∀ x7 : Option Addr × Nat, StepM Tryz.prog w [ownF rdFrame 9 72 x7.1 s.ws.length x7.2 s.ws] k9 (fun _ => False) (Nat) k7 (fun x => [cellsF x k1 72]) ∧ ∀ x8 : Nat, (∀ x : Option Addr × Nat, Imp w [ownF rdFrame 9 72 x.1 (k0.length) x.2 k0, cellsF x8 k1 72] []) ∧ StepM Tryz.prog w [cellsF x8 k1 72, ownF rdFrame 9 72 x7.1 s.ws.length x7.2 s.ws] (Builtin.append_ #[22, 22] 22 #[.slice x7.1 s.ws.length x7.2, .slice (some ⟨x8, 0, none⟩) 1 1]) ((ownF rdFrame 9 72 x7.1 s.ws.length x7.2 s.ws).S) k6 (fun x => .slice x.1 (k0.length) x.2) k4 ∧ ∀ x9 : Option Addr × Nat, k5 = .int .i64 (s.n + 1) ∧ ∃ x : Jv, (.tuple #[.agg #[.int .i64 s.e, .int .i64 (s.n + 1), .int .i64 s.u, .int .i64 s.g, .int .i64 s.c, .slice x9.1 (k0.length) x9.2], .int .i64 0] : Value) = .tuple #[.agg (jc x k2.1), .int .i64 k2.2] ∧ Concl w [ownF rdFrame 9 72 x9.1 (k0.length) x9.2 k0, cellsF x8 k1 72] (fun w' => InJ w' (Nw S w w') x k2.1)) ∧ (StepM Tryz.prog w k18 k9 (fun _ => False) (Nat) k7 (fun x => [cellsF x k1 72]) ∧ ∀ x10 : Nat, (∀ x : Option Addr × Nat, Imp w [ownF rdFrame 9 72 x.1 s.ws.length x.2 s.ws, cellsF x10 k1 72] []) ∧ StepM Tryz.prog w [cellsF x10 k1 72, ownF rdFrame 9 72 k15 0 0 ([])] k16 k17 k6 (fun x => .slice x.1 s.ws.length x.2) k3 ∧ ∀ x11 : Option Addr × Nat, (∀ x : Option Addr × Nat, Imp w [ownF rdFrame 9 72 x.1 (k0.length) x.2 k0, cellsF x10 k1 72] []) ∧ StepM Tryz.prog w [ownF rdFrame 9 72 x11.1 s.ws.length x11.2 s.ws, cellsF x10 k1 72] (Builtin.append_ #[22, 22] 22 #[.slice x11.1 s.ws.length x11.2, .slice (some ⟨x10, 0, none⟩) 1 1]) ((ownF rdFrame 9 72 x11.1 s.ws.length x11.2 s.ws).S) k6 (fun x => .slice x.1 (k0.length) x.2) k4 ∧ ∀ x12 : Option Addr × Nat, k5 = .int .i64 (s.n + 1) ∧ ∃ x : Jv, (.tuple #[.agg #[.int .i64 s.e, .int .i64 (s.n + 1), .int .i64 s.u, .int .i64 s.g, .int .i64 s.c, .slice x12.1 (k0.length) x12.2], .int .i64 0] : Value) = .tuple #[.agg (jc x k2.1), .int .i64 k2.2] ∧ Concl w [ownF rdFrame 9 72 x12.1 (k0.length) x12.2 k0, cellsF x10 k1 72] (fun w' => InJ w' (Nw S w w') x k2.1))) ∧ (StepM Tryz.prog w k18 k9 (fun _ => False) (Nat) k7 (fun x => [cellsF x k1 72]) ∧ ∀ x13 : Nat, (∀ x : Option Addr × Nat, Imp w [ownF rdFrame 9 72 x.1 s.ws.length x.2 s.ws, cellsF x13 k1 72] []) ∧ StepM Tryz.prog w [cellsF x13 k1 72, ownF rdFrame 9 72 k15 0 0 ([])] k16 k17 k6 (fun x => .slice x.1 s.ws.length x.2) k3 ∧ ∀ x14 : Option Addr × Nat, (∀ x : Option Addr × Nat, Imp w [ownF rdFrame 9 72 x.1 (k0.length) x.2 k0, cellsF x13 k1 72] []) ∧ StepM Tryz.prog w [ownF rdFrame 9 72 x14.1 s.ws.length x14.2 s.ws, cellsF x13 k1 72] (Builtin.append_ #[22, 22] 22 #[.slice x14.1 s.ws.length x14.2, .slice (some ⟨x13, 0, none⟩) 1 1]) ((ownF rdFrame 9 72 x14.1 s.ws.length x14.2 s.ws).S) k6 (fun x => .slice x.1 (k0.length) x.2) k4 ∧ ∀ x15 : Option Addr × Nat, k5 = .int .i64 (s.n + 1) ∧ ∃ x : Jv, (.tuple #[.agg #[.int .i64 s.e, .int .i64 (s.n + 1), .int .i64 s.u, .int .i64 s.g, .int .i64 s.c, .slice x15.1 (k0.length) x15.2], .int .i64 0] : Value) = .tuple #[.agg (jc x k2.1), .int .i64 k2.2] ∧ Concl w [ownF rdFrame 9 72 x15.1 (k0.length) x15.2 k0, cellsF x13 k1 72] (fun w' => InJ w' (Nw S w w') x k2.1))) ∧ ((StepM Tryz.prog w [] k11 (fun _ => False) (Nat) k10 k8 ∧ ∀ x16 : Nat, let k19 : Option Addr := some ⟨x16, 0, none⟩; let k20 := Builtin.append_ #[22, 22] 22 #[.slice k19 0 0, .slice v.A s.ws.length v.c]; let k21 := (ownF rdFrame 9 72 k19 0 0 ([])).S; ((∀ x : Option Addr × Nat, Imp w [ownF rdFrame 9 72 x.1 s.ws.length x.2 s.ws] []) ∧ StepM Tryz.prog w [ownF rdFrame 9 72 k19 0 0 ([])] k20 k21 k6 (fun x => .slice x.1 s.ws.length x.2) k3 ∧ ∀ x17 : Option Addr × Nat, StepM Tryz.prog w [ownF rdFrame 9 72 x17.1 s.ws.length x17.2 s.ws] k9 (fun _ => False) (Nat) k7 (fun x => [cellsF x k1 72]) ∧ ∀ x18 : Nat, (∀ x : Option Addr × Nat, Imp w [ownF rdFrame 9 72 x.1 (k0.length) x.2 k0, cellsF x18 k1 72] []) ∧ StepM Tryz.prog w [cellsF x18 k1 72, ownF rdFrame 9 72 x17.1 s.ws.length x17.2 s.ws] (Builtin.append_ #[22, 22] 22 #[.slice x17.1 s.ws.length x17.2, .slice (some ⟨x18, 0, none⟩) 1 1]) ((ownF rdFrame 9 72 x17.1 s.ws.length x17.2 s.ws).S) k6 (fun x => .slice x.1 (k0.length) x.2) k4 ∧ ∀ x19 : Option Addr × Nat, k5 = .int .i64 (s.n + 1) ∧ ∃ x : Jv, (.tuple #[.agg #[.int .i64 s.e, .int .i64 (s.n + 1), .int .i64 s.u, .int .i64 s.g, .int .i64 s.c, .slice x19.1 (k0.length) x19.2], .int .i64 0] : Value) = .tuple #[.agg (jc x k2.1), .int .i64 k2.2] ∧ Concl w [ownF rdFrame 9 72 x19.1 (k0.length) x19.2 k0, cellsF x18 k1 72] (fun w' => InJ w' (Nw S w w') x k2.1)) ∧ (StepM Tryz.prog w [ownF rdFrame 9 72 k19 0 0 ([])] k9 (fun _ => False) (Nat) k7 (fun x => [cellsF x k1 72]) ∧ ∀ x20 : Nat, (∀ x : Option Addr × Nat, Imp w [ownF rdFrame 9 72 x.1 s.ws.length x.2 s.ws, cellsF x20 k1 72] []) ∧ StepM Tryz.prog w [cellsF x20 k1 72, ownF rdFrame 9 72 k19 0 0 ([])] k20 k21 k6 (fun x => .slice x.1 s.ws.length x.2) k3 ∧ ∀ x21 : Option Addr × Nat, (∀ x : Option Addr × Nat, Imp w [ownF rdFrame 9 72 x.1 (k0.length) x.2 k0, cellsF x20 k1 72] []) ∧ StepM Tryz.prog w [ownF rdFrame 9 72 x21.1 s.ws.length x21.2 s.ws, cellsF x20 k1 72] (Builtin.append_ #[22, 22] 22 #[.slice x21.1 s.ws.length x21.2, .slice (some ⟨x20, 0, none⟩) 1 1]) ((ownF rdFrame 9 72 x21.1 s.ws.length x21.2 s.ws).S) k6 (fun x => .slice x.1 (k0.length) x.2) k4 ∧ ∀ x22 : Option Addr × Nat, k5 = .int .i64 (s.n + 1) ∧ ∃ x : Jv, (.tuple #[.agg #[.int .i64 s.e, .int .i64 (s.n + 1), .int .i64 s.u, .int .i64 s.g, .int .i64 s.c, .slice x22.1 (k0.length) x22.2], .int .i64 0] : Value) = .tuple #[.agg (jc x k2.1), .int .i64 k2.2] ∧ Concl w [ownF rdFrame 9 72 x22.1 (k0.length) x22.2 k0, cellsF x20 k1 72] (fun w' => InJ w' (Nw S w w') x k2.1))) ∧ (StepM Tryz.prog w [] k9 (fun _ => False) (Nat) k7 (fun x => [cellsF x k1 72]) ∧ ∀ x23 : Nat, StepM Tryz.prog w [cellsF x23 k1 72] k11 (fun _ => False) (Nat) k10 k8 ∧ ∀ x24 : Nat, let k22 : Option Addr := some ⟨x24, 0, none⟩; (∀ x : Option Addr × Nat, Imp w [ownF rdFrame 9 72 x.1 s.ws.length x.2 s.ws, cellsF x23 k1 72] []) ∧ StepM Tryz.prog w [ownF rdFrame 9 72 k22 0 0 ([]), cellsF x23 k1 72] (Builtin.append_ #[22, 22] 22 #[.slice k22 0 0, .slice v.A s.ws.length v.c]) ((ownF rdFrame 9 72 k22 0 0 ([])).S) k6 (fun x => .slice x.1 s.ws.length x.2) k3 ∧ ∀ x25 : Option Addr × Nat, (∀ x : Option Addr × Nat, Imp w [ownF rdFrame 9 72 x.1 (k0.length) x.2 k0, cellsF x23 k1 72] []) ∧ StepM Tryz.prog w [ownF rdFrame 9 72 x25.1 s.ws.length x25.2 s.ws, cellsF x23 k1 72] (Builtin.append_ #[22, 22] 22 #[.slice x25.1 s.ws.length x25.2, .slice (some ⟨x23, 0, none⟩) 1 1]) ((ownF rdFrame 9 72 x25.1 s.ws.length x25.2 s.ws).S) k6 (fun x => .slice x.1 (k0.length) x.2) k4 ∧ ∀ x26 : Option Addr × Nat, k5 = .int .i64 (s.n + 1) ∧ ∃ x : Jv, (.tuple #[.agg #[.int .i64 s.e, .int .i64 (s.n + 1), .int .i64 s.u, .int .i64 s.g, .int .i64 s.c, .slice x26.1 (k0.length) x26.2], .int .i64 0] : Value) = .tuple #[.agg (jc x k2.1), .int .i64 k2.2] ∧ Concl w [ownF rdFrame 9 72 x26.1 (k0.length) x26.2 k0, cellsF x23 k1 72] (fun w' => InJ w' (Nw S w w') x k2.1))) ∧ (StepM Tryz.prog w [] k9 (fun _ => False) (Nat) k7 (fun x => [cellsF x k1 72]) ∧ ∀ x27 : Nat, (StepM Tryz.prog w [cellsF x27 k1 72] k11 (fun _ => False) (Nat) k10 k8 ∧ ∀ x28 : Nat, let k23 : Option Addr := some ⟨x28, 0, none⟩; (∀ x : Option Addr × Nat, Imp w [ownF rdFrame 9 72 x.1 s.ws.length x.2 s.ws, cellsF x27 k1 72] []) ∧ StepM Tryz.prog w [ownF rdFrame 9 72 k23 0 0 ([]), cellsF x27 k1 72] (Builtin.append_ #[22, 22] 22 #[.slice k23 0 0, .slice v.A s.ws.length v.c]) ((ownF rdFrame 9 72 k23 0 0 ([])).S) k6 (fun x => .slice x.1 s.ws.length x.2) k3 ∧ ∀ x29 : Option Addr × Nat, (∀ x : Option Addr × Nat, Imp w [ownF rdFrame 9 72 x.1 (k0.length) x.2 k0, cellsF x27 k1 72] []) ∧ StepM Tryz.prog w [ownF rdFrame 9 72 x29.1 s.ws.length x29.2 s.ws, cellsF x27 k1 72] (Builtin.append_ #[22, 22] 22 #[.slice x29.1 s.ws.length x29.2, .slice (some ⟨x27, 0, none⟩) 1 1]) ((ownF rdFrame 9 72 x29.1 s.ws.length x29.2 s.ws).S) k6 (fun x => .slice x.1 (k0.length) x.2) k4 ∧ ∀ x30 : Option Addr × Nat, k5 = .int .i64 (s.n + 1) ∧ ∃ x : Jv, (.tuple #[.agg #[.int .i64 s.e, .int .i64 (s.n + 1), .int .i64 s.u, .int .i64 s.g, .int .i64 s.c, .slice x30.1 (k0.length) x30.2], .int .i64 0] : Value) = .tuple #[.agg (jc x k2.1), .int .i64 k2.2] ∧ Concl w [ownF rdFrame 9 72 x30.1 (k0.length) x30.2 k0, cellsF x27 k1 72] (fun w' => InJ w' (Nw S w w') x k2.1)) ∧ (StepM Tryz.prog w [cellsF x27 k1 72] k11 (fun _ => False) (Nat) k10 k8 ∧ ∀ x31 : Nat, let k24 : Option Addr := some ⟨x31, 0, none⟩; (∀ x : Option Addr × Nat, Imp w [ownF rdFrame 9 72 x.1 s.ws.length x.2 s.ws, cellsF x27 k1 72] []) ∧ StepM Tryz.prog w [ownF rdFrame 9 72 k24 0 0 ([]), cellsF x27 k1 72] (Builtin.append_ #[22, 22] 22 #[.slice k24 0 0, .slice v.A s.ws.length v.c]) ((ownF rdFrame 9 72 k24 0 0 ([])).S) k6 (fun x => .slice x.1 s.ws.length x.2) k3 ∧ ∀ x32 : Option Addr × Nat, (∀ x : Option Addr × Nat, Imp w [ownF rdFrame 9 72 x.1 (k0.length) x.2 k0, cellsF x27 k1 72] []) ∧ StepM Tryz.prog w [ownF rdFrame 9 72 x32.1 s.ws.length x32.2 s.ws, cellsF x27 k1 72] (Builtin.append_ #[22, 22] 22 #[.slice x32.1 s.ws.length x32.2, .slice (some ⟨x27, 0, none⟩) 1 1]) ((ownF rdFrame 9 72 x32.1 s.ws.length x32.2 s.ws).S) k6 (fun x => .slice x.1 (k0.length) x.2) k4 ∧ ∀ x33 : Option Addr × Nat, k5 = .int .i64 (s.n + 1) ∧ ∃ x : Jv, (.tuple #[.agg #[.int .i64 s.e, .int .i64 (s.n + 1), .int .i64 s.u, .int .i64 s.g, .int .i64 s.c, .slice x33.1 (k0.length) x33.2], .int .i64 0] : Value) = .tuple #[.agg (jc x k2.1), .int .i64 k2.2] ∧ Concl w [ownF rdFrame 9 72 x33.1 (k0.length) x33.2 k0, cellsF x27 k1 72] (fun w' => InJ w' (Nw S w w') x k2.1)))))))) ∧ ((right s) = false → ∃ x : Jv, k12 = .tuple #[.agg (jc x k2.1), .int .i64 k2.2] ∧ Concl w [] (fun w' => InJ w' (Nw S w w') x k2.1))) Tryz.func12 (by kernel_rfl)
 (fun g0 => fun g1 => fun g2 => ⟨(fun w1 hw _ => v_rright v s w1 (h.later hw)), fun h1 => ⟨fun h2 => have h2 : k < 1 := (by simpa using h2)
(q_j (put_arg (.inr (by omega))) (fun w1 hb ha hy => (h0.keep (low_alike hS hb) (fun _ h => .inl h)))),
 fun h2 => have h2 : ¬ k < 1 := (by simpa using h2)
⟨fun h3 => have h3 : 6 < k := (by simpa using h3)
(q_j (put_arg (.inr (by omega))) (fun w1 hb ha hy => (h0.keep (low_alike hS hb) (fun _ h => .inl h)))),
 fun h3 => have h3 : ¬ 6 < k := (by simpa using h3)
⟨fun h4 => have h4 : 1000000000 < s.n := (by simpa using h4)
(q_j (put_over h1 (by omega)) (fun w1 hb ha hy => (h0.keep (low_alike hS hb) (fun _ h => .inl h)))),
 fun h4 => have h4 : ¬ 1000000000 < s.n := (by simpa using h4)
⟨fun h5 => have h5 : ¬ (s.ws.length : Int) < 32 := (by simpa using h5)
(q_j (put_full h1 (by omega)) (fun w1 hb ha hy => (h0.keep (low_alike hS hb) (fun _ h => .inl h)))),
 fun h5 => have h5 : (s.ws.length : Int) < 32 := (by simpa using h5)
 fun g3 => ⟨⟨(build_none keeps_frame (by kernel_rfl) (fun g => by kernel_rfl)), fun x6 => ⟨⟨⟨fun x w _ ha => trivial, (step_to2 (by simp) (List.nil_append _) (append_core keeps_frame leaf_frame (by decide) Tryz.underlying22 info_frame rfl (fun _ h => h) (row_at (j := 0) rfl) (fun w hw _ => ⟨_, low_keep keeps_frame (Nat.le_refl _) h.f hw⟩) rfl (by unfold maxLen; omega) (by omega) (fun h => h))), fun x7 => ⟨(build_step2 (by kernel_rfl) (fun g => by kernel_rfl)), fun x8 => ⟨fun x w _ ha => trivial, (step_to2 (by simp) rfl (append_core keeps_frame leaf_frame (by decide) Tryz.underlying22 info_frame rfl (fun _ h => h) (row_at (j := 1) rfl) (fun w _ ha => one_elem (block_at (j := 0) rfl w ha) rfl ⟨rfl, newF_fine h0 hk hb⟩) rfl (by unfold maxLen; omega) (by omega) (fun h => h))), fun x9 => ⟨wrap_is rfl (by have := right_facts h1; omega) (by have := right_facts h1; omega), (q_j (v' := ⟨x9.1, x9.2⟩) (s' := { s with ws := s.ws ++ [newF s k b0 b1 b2 b3 b4 b5], n := s.n + 1 }) (put_yes h1 (by omega)) (fun w1 hb1 ha hy => put_in h0 (right_facts h1) (row_at (j := 0) rfl w1 ha) (fun q hq => hy _ (List.mem_of_getElem? (i := 0) rfl) q hq)))⟩⟩⟩⟩,
⟨(build_step2 (by kernel_rfl) (fun g => by kernel_rfl)), fun x10 => ⟨fun x w _ ha => trivial, (step_to2 (by simp) (List.nil_append _) (append_core keeps_frame leaf_frame (by decide) Tryz.underlying22 info_frame rfl (fun _ h => h) (row_at (j := 1) rfl) (fun w hw _ => ⟨_, low_keep keeps_frame (Nat.le_refl _) h.f hw⟩) rfl (by unfold maxLen; omega) (by omega) (fun h => h))), fun x11 => ⟨fun x w _ ha => trivial, (step_to2 (by simp) rfl (append_core keeps_frame leaf_frame (by decide) Tryz.underlying22 info_frame rfl (fun _ h => h) (row_at (j := 0) rfl) (fun w _ ha => one_elem (block_at (j := 1) rfl w ha) rfl ⟨rfl, newF_fine h0 hk hb⟩) rfl (by unfold maxLen; omega) (by omega) (fun h => h))), fun x12 => ⟨wrap_is rfl (by have := right_facts h1; omega) (by have := right_facts h1; omega), (q_j (v' := ⟨x12.1, x12.2⟩) (s' := { s with ws := s.ws ++ [newF s k b0 b1 b2 b3 b4 b5], n := s.n + 1 }) (put_yes h1 (by omega)) (fun w1 hb1 ha hy => put_in h0 (right_facts h1) (row_at (j := 0) rfl w1 ha) (fun q hq => hy _ (List.mem_of_getElem? (i := 0) rfl) q hq)))⟩⟩⟩⟩⟩,
⟨(build_step2 (by kernel_rfl) (fun g => by kernel_rfl)), fun x13 => ⟨fun x w _ ha => trivial, (step_to2 (by simp) (List.nil_append _) (append_core keeps_frame leaf_frame (by decide) Tryz.underlying22 info_frame rfl (fun _ h => h) (row_at (j := 1) rfl) (fun w hw _ => ⟨_, low_keep keeps_frame (Nat.le_refl _) h.f hw⟩) rfl (by unfold maxLen; omega) (by omega) (fun h => h))), fun x14 => ⟨fun x w _ ha => trivial, (step_to2 (by simp) rfl (append_core keeps_frame leaf_frame (by decide) Tryz.underlying22 info_frame rfl (fun _ h => h) (row_at (j := 0) rfl) (fun w _ ha => one_elem (block_at (j := 1) rfl w ha) rfl ⟨rfl, newF_fine h0 hk hb⟩) rfl (by unfold maxLen; omega) (by omega) (fun h => h))), fun x15 => ⟨wrap_is rfl (by have := right_facts h1; omega) (by have := right_facts h1; omega), (q_j (v' := ⟨x15.1, x15.2⟩) (s' := { s with ws := s.ws ++ [newF s k b0 b1 b2 b3 b4 b5], n := s.n + 1 }) (put_yes h1 (by omega)) (fun w1 hb1 ha hy => put_in h0 (right_facts h1) (row_at (j := 0) rfl w1 ha) (fun q hq => hy _ (List.mem_of_getElem? (i := 0) rfl) q hq)))⟩⟩⟩⟩⟩⟩,
⟨⟨(build_none keeps_frame (by kernel_rfl) (fun g => by kernel_rfl)), fun x16 => ⟨⟨fun x w _ ha => trivial, (step_to2 (by simp) (List.nil_append _) (append_core keeps_frame leaf_frame (by decide) Tryz.underlying22 info_frame rfl (fun _ h => h) (row_at (j := 0) rfl) (fun w hw _ => ⟨_, low_keep keeps_frame (Nat.le_refl _) h.f hw⟩) rfl (by unfold maxLen; omega) (by omega) (fun h => h))), fun x17 => ⟨(build_step2 (by kernel_rfl) (fun g => by kernel_rfl)), fun x18 => ⟨fun x w _ ha => trivial, (step_to2 (by simp) rfl (append_core keeps_frame leaf_frame (by decide) Tryz.underlying22 info_frame rfl (fun _ h => h) (row_at (j := 1) rfl) (fun w _ ha => one_elem (block_at (j := 0) rfl w ha) rfl ⟨rfl, newF_fine h0 hk hb⟩) rfl (by unfold maxLen; omega) (by omega) (fun h => h))), fun x19 => ⟨wrap_is rfl (by have := right_facts h1; omega) (by have := right_facts h1; omega), (q_j (v' := ⟨x19.1, x19.2⟩) (s' := { s with ws := s.ws ++ [newF s k b0 b1 b2 b3 b4 b5], n := s.n + 1 }) (put_yes h1 (by omega)) (fun w1 hb1 ha hy => put_in h0 (right_facts h1) (row_at (j := 0) rfl w1 ha) (fun q hq => hy _ (List.mem_of_getElem? (i := 0) rfl) q hq)))⟩⟩⟩⟩,
⟨(build_step2 (by kernel_rfl) (fun g => by kernel_rfl)), fun x20 => ⟨fun x w _ ha => trivial, (step_to2 (by simp) (List.nil_append _) (append_core keeps_frame leaf_frame (by decide) Tryz.underlying22 info_frame rfl (fun _ h => h) (row_at (j := 1) rfl) (fun w hw _ => ⟨_, low_keep keeps_frame (Nat.le_refl _) h.f hw⟩) rfl (by unfold maxLen; omega) (by omega) (fun h => h))), fun x21 => ⟨fun x w _ ha => trivial, (step_to2 (by simp) rfl (append_core keeps_frame leaf_frame (by decide) Tryz.underlying22 info_frame rfl (fun _ h => h) (row_at (j := 0) rfl) (fun w _ ha => one_elem (block_at (j := 1) rfl w ha) rfl ⟨rfl, newF_fine h0 hk hb⟩) rfl (by unfold maxLen; omega) (by omega) (fun h => h))), fun x22 => ⟨wrap_is rfl (by have := right_facts h1; omega) (by have := right_facts h1; omega), (q_j (v' := ⟨x22.1, x22.2⟩) (s' := { s with ws := s.ws ++ [newF s k b0 b1 b2 b3 b4 b5], n := s.n + 1 }) (put_yes h1 (by omega)) (fun w1 hb1 ha hy => put_in h0 (right_facts h1) (row_at (j := 0) rfl w1 ha) (fun q hq => hy _ (List.mem_of_getElem? (i := 0) rfl) q hq)))⟩⟩⟩⟩⟩⟩,
⟨(build_step2 (by kernel_rfl) (fun g => by kernel_rfl)), fun x23 => ⟨(build_none keeps_frame (by kernel_rfl) (fun g => by kernel_rfl)), fun x24 => ⟨fun x w _ ha => trivial, (step_to2 (by simp) (List.nil_append _) (append_core keeps_frame leaf_frame (by decide) Tryz.underlying22 info_frame rfl (fun _ h => h) (row_at (j := 0) rfl) (fun w hw _ => ⟨_, low_keep keeps_frame (Nat.le_refl _) h.f hw⟩) rfl (by unfold maxLen; omega) (by omega) (fun h => h))), fun x25 => ⟨fun x w _ ha => trivial, (step_to2 (by simp) rfl (append_core keeps_frame leaf_frame (by decide) Tryz.underlying22 info_frame rfl (fun _ h => h) (row_at (j := 0) rfl) (fun w _ ha => one_elem (block_at (j := 1) rfl w ha) rfl ⟨rfl, newF_fine h0 hk hb⟩) rfl (by unfold maxLen; omega) (by omega) (fun h => h))), fun x26 => ⟨wrap_is rfl (by have := right_facts h1; omega) (by have := right_facts h1; omega), (q_j (v' := ⟨x26.1, x26.2⟩) (s' := { s with ws := s.ws ++ [newF s k b0 b1 b2 b3 b4 b5], n := s.n + 1 }) (put_yes h1 (by omega)) (fun w1 hb1 ha hy => put_in h0 (right_facts h1) (row_at (j := 0) rfl w1 ha) (fun q hq => hy _ (List.mem_of_getElem? (i := 0) rfl) q hq)))⟩⟩⟩⟩⟩⟩,
⟨(build_step2 (by kernel_rfl) (fun g => by kernel_rfl)), fun x27 => ⟨⟨(build_none keeps_frame (by kernel_rfl) (fun g => by kernel_rfl)), fun x28 => ⟨fun x w _ ha => trivial, (step_to2 (by simp) (List.nil_append _) (append_core keeps_frame leaf_frame (by decide) Tryz.underlying22 info_frame rfl (fun _ h => h) (row_at (j := 0) rfl) (fun w hw _ => ⟨_, low_keep keeps_frame (Nat.le_refl _) h.f hw⟩) rfl (by unfold maxLen; omega) (by omega) (fun h => h))), fun x29 => ⟨fun x w _ ha => trivial, (step_to2 (by simp) rfl (append_core keeps_frame leaf_frame (by decide) Tryz.underlying22 info_frame rfl (fun _ h => h) (row_at (j := 0) rfl) (fun w _ ha => one_elem (block_at (j := 1) rfl w ha) rfl ⟨rfl, newF_fine h0 hk hb⟩) rfl (by unfold maxLen; omega) (by omega) (fun h => h))), fun x30 => ⟨wrap_is rfl (by have := right_facts h1; omega) (by have := right_facts h1; omega), (q_j (v' := ⟨x30.1, x30.2⟩) (s' := { s with ws := s.ws ++ [newF s k b0 b1 b2 b3 b4 b5], n := s.n + 1 }) (put_yes h1 (by omega)) (fun w1 hb1 ha hy => put_in h0 (right_facts h1) (row_at (j := 0) rfl w1 ha) (fun q hq => hy _ (List.mem_of_getElem? (i := 0) rfl) q hq)))⟩⟩⟩⟩,
⟨(build_none keeps_frame (by kernel_rfl) (fun g => by kernel_rfl)), fun x31 => ⟨fun x w _ ha => trivial, (step_to2 (by simp) (List.nil_append _) (append_core keeps_frame leaf_frame (by decide) Tryz.underlying22 info_frame rfl (fun _ h => h) (row_at (j := 0) rfl) (fun w hw _ => ⟨_, low_keep keeps_frame (Nat.le_refl _) h.f hw⟩) rfl (by unfold maxLen; omega) (by omega) (fun h => h))), fun x32 => ⟨fun x w _ ha => trivial, (step_to2 (by simp) rfl (append_core keeps_frame leaf_frame (by decide) Tryz.underlying22 info_frame rfl (fun _ h => h) (row_at (j := 0) rfl) (fun w _ ha => one_elem (block_at (j := 1) rfl w ha) rfl ⟨rfl, newF_fine h0 hk hb⟩) rfl (by unfold maxLen; omega) (by omega) (fun h => h))), fun x33 => ⟨wrap_is rfl (by have := right_facts h1; omega) (by have := right_facts h1; omega), (q_j (v' := ⟨x33.1, x33.2⟩) (s' := { s with ws := s.ws ++ [newF s k b0 b1 b2 b3 b4 b5], n := s.n + 1 }) (put_yes h1 (by omega)) (fun w1 hb1 ha hy => put_in h0 (right_facts h1) (row_at (j := 0) rfl w1 ha) (fun q hq => hy _ (List.mem_of_getElem? (i := 0) rfl) q hq)))⟩⟩⟩⟩⟩⟩⟩⟩⟩⟩⟩,
 fun h1 => (q_j (put_arg (.inl h1)) (fun w1 hb ha hy => (h0.keep (low_alike hS hb) (fun _ h => .inl h))))⟩)
end Go.Proofs.YtepfmpmphcndjaaGreatDoor.wal
end
section
namespace Go.Proofs.YtepfmpmphcndjaaGreatDoor.wal
open Go.RowKit Go.Proofs.YtepfmpmphcndjaaGreatDoor Go.Proofs.YtepfmpmphcndjaaGreatDoor.frame Go.Proofs.YtepfmpmphcndjaaGreatDoor.disk
set_option maxRecDepth 20000
section
variable {w0 W : World} {D : List Fact} {S : Nat → Prop} {v q : Jv} {s : Wl} {u u2 : Dv} {t : DiskD}
theorem g_rput12 {k b0 b1 b2 b3 b4 b5 : Int} {r : Wl × Int} (e : putW s k b0 b1 b2 b3 b4 b5 = r) (hF : Fixed w0 D S W) (hj : ∀ w, Below w0.heap.size w0 w → All D w → InJ w S v s) (hk : inI k) (hb : inI b0 ∧ inI b1 ∧ inI b2 ∧ inI b3 ∧ inI b4 ∧ inI b5) :
  GivesM Tryz.prog w0 D 12 #[.agg (jc v s), .int .i64 k, .agg #[.int .i64 b0, .int .i64 b1, .int .i64 b2, .int .i64 b3, .int .i64 b4, .int .i64 b5]] (Dat (fun w S v => InJ w S v r.1) S W) (fun x => .tuple #[.agg (jc x.1.2.2 r.1), .int .i64 r.2]) (fun x => [poolF x.1.1 x.1.2.1]) := by
 subst e
 exact gives_dat (R := fun w S v => InJ w S v (putW s k b0 b1 b2 b3 b4 b5).1) (r := fun b => .tuple #[.agg (jc b (putW s k b0 b1 b2 b3 b4 b5).1), .int .i64 (putW s k b0 b1 b2 b3 b4 b5).2]) hF (fun w hw ha => v_rput v s k b0 b1 b2 b3 b4 b5 S w (hj w hw ha) (hF w hw ha).2 hk hb)
theorem g_rcommit {r : Wl × DiskD × Int} (e : commitL s t = r) (hF : Fixed w0 D S W) (hj : ∀ w, Below w0.heap.size w0 w → All D w → InJ w S v s) (hd : ∀ w, Below w0.heap.size w0 w → All D w → InD w S u t) (hs : shortB t.files = true) :
  GivesM Tryz.prog w0 D 17 #[.agg (jc v s), .agg (dc u t)] (Dat (RW r) S W) (fun x => .tuple #[.agg (jc x.1.2.2.1 r.1), .agg (dc x.1.2.2.2 r.2.1), .int .i64 r.2.2]) (fun x => [poolF x.1.1 x.1.2.1]) := by
 subst e
 exact gives_dat (R := RW (commitL s t)) (r := fun b => .tuple #[.agg (jc b.1 (commitL s t).1), .agg (dc b.2 (commitL s t).2.1), .int .i64 (commitL s t).2.2]) hF (fun w hw ha => v_rcommit v s u t S w (hj w hw ha) (hd w hw ha) (hF w hw ha).2 hs)
theorem g_rdrop {lsn : Int} {r : DiskD × Int} (e : dropR s t lsn = r) (hF : Fixed w0 D S W) (hj : ∀ w, Below w0.heap.size w0 w → All D w → InJ w S v s) (hd : ∀ w, Below w0.heap.size w0 w → All D w → InD w S u t) (hs : shortB t.files = true) :
  GivesM Tryz.prog w0 D 20 #[.agg (jc v s), .agg (dc u t), .int .i64 lsn] (Dat (fun w S v => InD w S v r.1) S W) (fun x => .tuple #[.agg (dc x.1.2.2 r.1), .int .i64 r.2]) (fun x => [poolF x.1.1 x.1.2.1]) := by
 subst e
 exact gives_dat (R := fun w S v => InD w S v (dropR s t lsn).1) (r := fun b => .tuple #[.agg (dc b (dropR s t lsn).1), .int .i64 (dropR s t lsn).2]) hF (fun w hw ha => v_rdrop v s u t lsn S w (hj w hw ha) (hd w hw ha) (hF w hw ha).2 hs)
theorem g_rsegs {l : List Int} (e : segs t = l) (hd : ∀ w, Below w0.heap.size w0 w → All D w → InD w (Lt w.heap.size) u t) (hs : shortB t.files = true) :
  GivesM Tryz.prog w0 D 22 #[.agg (dc u t)] (Option Addr × Nat) (fun x => .slice x.1 l.length x.2) (fun x => [ownF (rdInt .i64) 1 2 x.1 l.length x.2 l]) := by
 subst e
 exact fun w hw ha => v_rsegments u t w (hd w hw ha) hs
theorem g_rright2 {b : Bool} (e : right s = b) (hj : ∀ w, Below w0.heap.size w0 w → All D w → InJ w (Lt w.heap.size) v s) : Gives Tryz.prog w0 D 14 #[.agg (jc v s)] (.bool b) := fun w hw ha => by
 subst e; exact v_rright v s w (hj w hw ha)
end
end Go.Proofs.YtepfmpmphcndjaaGreatDoor.wal
end
