/-
  Contracts of package disk: a file put in its place.
-/
import Derived.Test.YtjmjpnmlpdbbpaaDiskImpl12
namespace Go.Proofs.Ytjmjpnmlpdbbpaa.disk
open Go.RowKit
set_option linter.unusedVariables false

/-- a file of a new name is put in its place. -/
theorem with_here {fs : List FileD} (h : Row fs) {f : FileD} (hl : look f.name fs = none) : withF f fs = fs.take (placeN f.name fs) ++ f :: fs.drop (placeN f.name fs) := by
  have hsp := place_spec (nm := f.name) h
  have hle := place_le f.name fs
  rw [with_eq f h]
  have e1 : ahead f.name fs = fs.take (placeN f.name fs) := by
    have h1 : (fs.take (placeN f.name fs)).filter (fun g => decide (nlt g.name f.name)) = fs.take (placeN f.name fs) := by
      rw [List.filter_eq_self]
      intro g hg
      obtain ⟨t, ht, rfl⟩ := List.getElem_of_mem hg
      rw [List.length_take] at ht
      rw [List.getElem_take]
      exact decide_eq_true ((hsp t _ (List.getElem?_eq_getElem (by omega))).1 (by omega))
    have h2 : (fs.drop (placeN f.name fs)).filter (fun g => decide (nlt g.name f.name)) = [] := by
      rw [List.filter_eq_nil_iff]
      intro g hg
      obtain ⟨t, ht, rfl⟩ := List.getElem_of_mem hg
      rw [List.length_drop] at ht
      rw [List.getElem_drop]
      simpa using (hsp (placeN f.name fs + t) _ (List.getElem?_eq_getElem (by omega))).2 (by omega)
    show fs.filter _ = _
    conv => lhs; rw [← List.take_append_drop (placeN f.name fs) fs]
    rw [List.filter_append, h1, h2, List.append_nil]
  have e2 : behind f.name fs = fs.drop (placeN f.name fs) := by
    have h1 : (fs.take (placeN f.name fs)).filter (fun g => decide (nlt f.name g.name)) = [] := by
      rw [List.filter_eq_nil_iff]
      intro g hg
      obtain ⟨t, ht, rfl⟩ := List.getElem_of_mem hg
      rw [List.length_take] at ht
      rw [List.getElem_take]
      simpa using nlt_asymm ((hsp t _ (List.getElem?_eq_getElem (by omega))).1 (by omega))
    have h2 : (fs.drop (placeN f.name fs)).filter (fun g => decide (nlt f.name g.name)) = fs.drop (placeN f.name fs) := by
      rw [List.filter_eq_self]
      intro g hg
      have hm : g ∈ fs := List.mem_of_mem_drop hg
      obtain ⟨t, ht, rfl⟩ := List.getElem_of_mem hg
      rw [List.length_drop] at ht
      have h3 := (hsp (placeN f.name fs + t) _ (List.getElem?_eq_getElem (by omega))).2 (by omega)
      have h4 := look_none hl _ hm
      rw [List.getElem_drop] at h4 ⊢
      rcases nlt_tri fs[placeN f.name fs + t].name f.name with h5 | h5 | h5
      · exact absurd h5 h3
      · exact absurd h5 h4
      · exact decide_eq_true h5
    show fs.filter _ = _
    conv => lhs; rw [← List.take_append_drop (placeN f.name fs) fs]
    rw [List.filter_append, h1, h2, List.nil_append]
  rw [e1, e2, List.append_assoc]
  rfl

set_option maxHeartbeats 6000000 in
theorem dplaced (A : Option Addr) (n c base : Nat) (fs : List FileD) (f : FileD) (Af : Option Addr) (nf cf : Nat) (S : Nat → Prop) (w : World) (ho : OwnF w base 51 S A n c fs) (hbase : base ≤ w.heap.size) (hbig : n ≤ 1000) (hrow : Row fs)
    (hnm : f.name.size ≤ maxLen) (hwf : (Lit.int .i64 f.sure).wf = true) (hd : rdData w S (.slice Af nf cf) f.data) (hS : ∀ b, S b → b < w.heap.size ∧ A ≠ some ⟨b, 0, none⟩) :
    Calls Try.prog 46 #[.slice A n c, .agg #[.string f.name, .slice Af nf cf, .int .i64 f.sure]] w fun e w' =>
      ∃ A' n' c', e = .returned (.slice A' n' c') ∧ OwnF w' base 51 S A' n' c' (withF f fs) ∧ Below base w w' ∧ ∀ b, b < w.heap.size → A ≠ some ⟨b, 0, none⟩ → w'.heap[b]? = w.heap[b]? := by
  obtain ⟨p, hp⟩ : ∃ p, placeN f.name fs = p := ⟨_, rfl⟩
  have hB0 : ∀ o : Obj, Below w.heap.size w (w.alloc o) := fun o => (Below.refl _ _).alloc (Nat.le_refl _) o
  have HB0 := Lib.hid hB0
  have hgA : ∀ g, A = some ⟨g, 0, none⟩ → g < w.heap.size := fun g e => (ho.block g e).2
  have HGA := Lib.hid hgA
  have HS := Lib.hid hS
  have HO := Lib.hid ho
  have HD := Lib.hid hd
  have hcap := ho.cap
  have K0 := Lib.hid (one_block w #[.string f.name, .slice Af nf cf, .int .i64 f.sure] 51)
  have HPL : ∀ b, (look f.name fs).isSome = b → Hid (Calls Try.prog 38 #[.slice A n c, .string f.name] (w.alloc (.cells #[.string f.name, .slice Af nf cf, .int .i64 f.sure] 51)) fun e w' => e = .returned (.tuple #[.int .i64 (p : Nat), .bool b]) ∧ Below (w.heap.size + 1) (w.alloc (.cells #[.string f.name, .slice Af nf cf, .int .i64 f.sure] 51)) w') := fun b hb => Lib.hid (by
    have h := dplace A n c f.name fs p b (Lt w.heap.size) (w.alloc (.cells #[.string f.name, .slice Af nf cf, .int .i64 f.sure] 51)) (fun b hb => by have : b < w.heap.size := hb; simp; omega) ((ho.all (fun b hb => (hS b hb).1)).below (fun b hb => hb) (hB0 _)) ho.len (by omega) hrow hp hb
    have e : (w.alloc (.cells #[.string f.name, .slice Af nf cf, .int .i64 f.sure] 51)).heap.size = w.heap.size + 1 := by simp
    rw [e] at h
    exact h)
  cases hl : look f.name fs with
  | some f0 =>
    have HP := HPL true (by rw [hl]; rfl)
    have hpl := place_at hrow hl
    rw [hp] at hpl
    have hpn : p < n := by rw [← ho.len]; exact (List.getElem?_eq_some_iff.1 hpl).1
    obtain ⟨g, cur, rfl, hgb, hgw, EG, hcs, hSg, HRW⟩ := own_some ho (by omega)
    have HW : Hid (withF f fs = fs.set p f) := Lib.hid (with_set hrow hpl (look_some hl).2.symm)
    obtain ⟨Ad, nd, cd, x0, x1, x2, x3, x4, x5, x6, x7, x8⟩ := HRW.out.at_ hpl
    have HX0 := Lib.hid x0
    have HX1 := Lib.hid x1
    have HX2 := Lib.hid x2
    have HWF := Lib.hid hwf
    have HLEN := Lib.hid ho.len
    have hc1 := hcap.1
    have hc2 := hcap.2
    unfold maxLen at hc2
    have hc3 : p * 3 + 2 < cur.size := by rw [hcs]; omega
    clear hB0 hgA hS ho hd HPL hl hpl hwf hcap x0 x1 x2 x5
    go_enter Try.func46, Try.ntmps46
    go_wp2_with ((with_reducible refine HP.out.mono ?_); rintro e w1 ⟨rfl, hg1⟩; have hs1 : w.heap.size + 1 ≤ w1.heap.size := (by have := hg1.size; simp at this; omega); have hgw1 := (HB0.out _).trans (hg1.mono (by omega)); have E0 := Lib.hid ((hg1.block w.heap.size (by omega)).trans K0.out); obtain ⟨b0, bf0⟩ := block_cell E0.out 0 _ rfl; obtain ⟨b1, bf1⟩ := block_cell E0.out 1 _ rfl; obtain ⟨b2, bf2⟩ := block_cell E0.out 2 _ rfl; have EG1 := Lib.hid ((hgw1.block g hgw).trans EG.out); obtain ⟨z0, zf0⟩ := block_cell EG1.out (p * 3) _ HX0.out; obtain ⟨z1, zf1⟩ := block_cell EG1.out (p * 3 + 1) _ HX1.out; obtain ⟨z2, zf2⟩ := block_cell EG1.out (p * 3 + 2) _ HX2.out)
    refine bodyPost_ret (v := .slice (some ⟨g, 0, none⟩) n c) (by simp [results, Try.results46, go_sem]) rfl ?_
    have e1 := heap_setCell_same w1 g (p * 3) _ _ (.string f.name) EG1.out
    have e2 := heap_setCell_same _ g (p * 3 + 1) _ _ (.slice Af nf cf) e1
    have e3 := heap_setCell_same _ g (p * 3 + 2) _ _ (.int .i64 f.sure) e2
    have hoff : ∀ b, b ≠ g → (((w1.setCell ⟨g, p * 3, none⟩ (.string f.name)).setCell ⟨g, p * 3 + 1, none⟩ (.slice Af nf cf)).setCell ⟨g, p * 3 + 2, none⟩ (.int .i64 f.sure)).heap[b]? = w1.heap[b]? := fun b hb =>
      (Below.heap_setCell _ _ _ _ hb).trans ((Below.heap_setCell _ _ _ _ hb).trans (Below.heap_setCell _ _ _ _ hb))
    have hal : ∀ b, S b → (((w1.setCell ⟨g, p * 3, none⟩ (.string f.name)).setCell ⟨g, p * 3 + 1, none⟩ (.slice Af nf cf)).setCell ⟨g, p * 3 + 2, none⟩ (.int .i64 f.sure)).heap[b]? = w.heap[b]? := fun b hb =>
      (hoff b (fun e => hSg (e ▸ hb))).trans (hgw1.block b (HS.out b hb).1)
    refine ⟨_, n, c, rfl, ?_, ?_, fun b hb hne => (hoff b (fun e => hne (by rw [e]))).trans (hgw1.block b hb)⟩
    · rw [HW.out]
      refine own_set (v := .slice Af nf cf) HLEN.out hc1 hc2 hgb HRW.out hSg e3 (by simpa using hcs) (fun b o hSb => World.cell?_of_block (hal b hSb)) (fun i hi => by rw [set_cell _ (by omega), set_cell _ (by omega), set_cell _ (by omega)]) ⟨?_, ?_, ?_, hnm, HWF.out⟩ (HD.out.keep (fun b o hSb => World.cell?_of_block (hal b hSb)) (fun _ h => h))
      · rw [set_cell _ (by omega), set_cell _ (by omega)]; exact set_cell_self _ (by omega)
      · rw [set_cell _ (by omega)]; exact set_cell_self _ (by simp; omega)
      · exact set_cell_self _ (by simp; omega)
    · exact (((hgw1.mono hbase).setCell (p := ⟨g, _, none⟩) hgb _).setCell (p := ⟨g, _, none⟩) hgb _).setCell (p := ⟨g, _, none⟩) hgb _
  | none =>
    have HP := HPL false (by rw [hl]; rfl)
    have HW : Hid (withF f fs = fs.take p ++ f :: fs.drop p) := Lib.hid (by rw [← hp]; exact with_here hrow hl)
    have hpn : p ≤ n := by rw [← hp, ← ho.len]; exact place_le _ _
    have HIN : Hid (∀ w1 : World, Below w.heap.size w w1 → w.heap.size + 1 ≤ w1.heap.size → Calls Try.prog 39 #[.slice A n c, .int .i64 (p : Nat), .slice (some ⟨w1.heap.size, 0, none⟩) 1 1] (w1.alloc (.cells #[.string f.name, .slice Af nf cf, .int .i64 f.sure] 51)) (InsPost base S A p (.slice Af nf cf) (n + 1) (fs.take p ++ f :: fs.drop p) (w1.alloc (.cells #[.string f.name, .slice Af nf cf, .int .i64 f.sure] 51)))) := Lib.hid (fun w1 hb hs => by
      have hb2 := hb.alloc hb.size (.cells #[.string f.name, .slice Af nf cf, .int .i64 f.sure] 51)
      have hsz : (w1.alloc (.cells #[.string f.name, .slice Af nf cf, .int .i64 f.sure] 51)).heap.size = w1.heap.size + 1 := by simp
      refine dinsert A n c p base fs f (.slice Af nf cf) w1.heap.size S S _ (ho.keep (fun g e => hb2.block g (hgA g e)) (fun b o hSb => World.cell?_of_block (hb2.block b (hS b hSb).1))) (by omega) hbig hpn (heap_alloc_new w1 _) (by omega) (fun e => by have := hgA _ e; omega) hnm hwf (hd.keep (fun b o hSb => World.cell?_of_block (hb2.block b (hS b hSb).1)) (fun _ h => h)) (fun _ h => h) (fun b hSb => ⟨by have := (hS b hSb).1; omega, (hS b hSb).2⟩))
    clear hB0 hgA hS ho hd HPL hl hwf hcap
    go_enter Try.func46, Try.ntmps46
    go_wp2_with (first
      | ((with_reducible refine HP.out.mono ?_); rintro e w1 ⟨rfl, hg1⟩; have hs1 : w.heap.size + 1 ≤ w1.heap.size := (by have := hg1.size; simp at this; omega); have hgw1 := (HB0.out _).trans (hg1.mono (by omega)); have E0 := Lib.hid ((hg1.block w.heap.size (by omega)).trans K0.out); obtain ⟨b0, bf0⟩ := block_cell E0.out 0 _ rfl; obtain ⟨b1, bf1⟩ := block_cell E0.out 1 _ rfl; obtain ⟨b2, bf2⟩ := block_cell E0.out 2 _ rfl)
      | ((with_reducible refine (HIN.out _ hgw1 hs1).mono ?_); rintro e w2 ⟨A2, c2, rfl, ho2, hb2, hoff2, _⟩))
    refine bodyPost_ret (v := .slice A2 (n + 1) c2) (by simp [results, Try.results46, go_sem]) rfl ?_
    refine ⟨A2, n + 1, c2, rfl, by rw [HW.out]; exact ho2, ((hgw1.mono hbase).alloc (by omega) _).trans hb2, fun b hb hne => (hoff2 b (by simp; omega) hne).trans ((Below.heap_alloc _ _ _ (by omega)).trans (hgw1.block b hb))⟩

end Go.Proofs.Ytjmjpnmlpdbbpaa.disk
