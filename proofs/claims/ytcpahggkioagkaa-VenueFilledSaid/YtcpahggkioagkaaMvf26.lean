/-
  RecImpl3
-/
import Derived.Test.YtcpahggkioagkaaMvf25
import Derived.BigRegion
import Derived.Deep.DeepCutAuto
import Derived.Deep.DrawnRows
import Derived.Deep.RegionHeld
set_option linter.unusedVariables false
set_option linter.unusedSimpArgs false
namespace Go.Proofs.Ytcpahggkioagkaa.rec
open Go.RowKit Go.Proofs.Ytcpahggkioagkaa
set_option maxRecDepth 100000
attribute [local go_sem] undef
attribute [local go_sem ↓] Go.wp_at_zero Go.wp_at_succ
theorem cells6 {W:World} {g:Nat} {T:TypeId} {b0 b1 b2 b3 b4 b5:Int} (h:W.heap[g]?=some (.cells #[.int .i64 b0,.int .i64 b1,.int .i64 b2,.int .i64 b3,.int .i64 b4,.int .i64 b5] T (0,0))) :
  W.cell? ⟨g,0,none⟩=some (.int .i64 b0)∧W.cell? ⟨g,1,none⟩=some (.int .i64 b1)∧W.cell? ⟨g,2,none⟩=some (.int .i64 b2)∧W.cell? ⟨g,3,none⟩=some (.int .i64 b3)∧W.cell? ⟨g,4,none⟩=some (.int .i64 b4)∧W.cell? ⟨g,5,none⟩=some (.int .i64 b5) :=
 ⟨(block_cell h 0 _ rfl).1,(block_cell h 1 _ rfl).1,(block_cell h 2 _ rfl).1,(block_cell h 3 _ rfl).1,(block_cell h 4 _ rfl).1,(block_cell h 5 _ rfl).1⟩
theorem read_1 (b0 b1 b2 b3 b4 b5:Int) (w:World):Calls Try.prog 59 #[.int .i64 1,.agg #[.int .i64 b0,.int .i64 b1,.int .i64 b2,.int .i64 b3,.int .i64 b4,.int .i64 b5]] w fun e w'=>e = .returned (.agg #[.int .i64 1,.int .i64 b0,.int .i64 b1,.int .i64 b2,.int .i64 b3,.int .i64 b4,.int .i64 b5,.int .i64 0,.int .i64 0,.int .i64 0,.bool false,.int .i64 0,.int .i64 0])∧Below w.heap.size w w':=by
 obtain ⟨W0,HW0⟩:∃ W,Hid ((((w.alloc (.cells #[.int .i64 b0,.int .i64 b1,.int .i64 b2,.int .i64 b3,.int .i64 b4,.int .i64 b5] 86)).alloc (.cells #[.int .i64 0,.int .i64 0,.int .i64 0,.int .i64 0,.int .i64 0,.int .i64 0,.int .i64 0,.int .i64 0,.int .i64 0,.int .i64 0,.bool false,.int .i64 0,.int .i64 0] 58)).alloc (.cells #[.int .i64 1,.int .i64 0,.int .i64 0,.int .i64 0,.int .i64 0,.int .i64 0,.int .i64 0,.int .i64 0,.int .i64 0,.int .i64 0,.bool false,.int .i64 0,.int .i64 0] 58))=W):=⟨_,Lib.hid rfl⟩
 have HBW:Hid (Below w.heap.size w W0):=Lib.hid (by rw [← HW0.out];exact (((Below.refl _ _).alloc (by simp) _).alloc (by simp;try omega) _).alloc (by simp;try omega) _)
 have HX0:Hid (∀ W,Below W0.heap.size W0 W→W.heap[w.heap.size]?=some (.cells #[.int .i64 b0,.int .i64 b1,.int .i64 b2,.int .i64 b3,.int .i64 b4,.int .i64 b5] 86 (0,0))):=Lib.hid (fun W hb=>(hb.block _ (by rw [← HW0.out];simp;try omega)).trans (by rw [← HW0.out];refine (Below.heap_alloc _ _ _ (by simp;try omega)).trans ?_;refine (Below.heap_alloc _ _ _ (by simp;try omega)).trans ?_;have:=heap_alloc_new w (.cells #[.int .i64 b0,.int .i64 b1,.int .i64 b2,.int .i64 b3,.int .i64 b4,.int .i64 b5] 86);exact this))
 have HX1:Hid (∀ W,Below W0.heap.size W0 W→W.heap[w.heap.size+1]?=some (.cells #[.int .i64 0,.int .i64 0,.int .i64 0,.int .i64 0,.int .i64 0,.int .i64 0,.int .i64 0,.int .i64 0,.int .i64 0,.int .i64 0,.bool false,.int .i64 0,.int .i64 0] 58 (0,0))):=Lib.hid (fun W hb=>(hb.block _ (by rw [← HW0.out];simp;try omega)).trans (by rw [← HW0.out];refine (Below.heap_alloc _ _ _ (by simp;try omega)).trans ?_;have:=heap_alloc_new (w.alloc (.cells #[.int .i64 b0,.int .i64 b1,.int .i64 b2,.int .i64 b3,.int .i64 b4,.int .i64 b5] 86)) (.cells #[.int .i64 0,.int .i64 0,.int .i64 0,.int .i64 0,.int .i64 0,.int .i64 0,.int .i64 0,.int .i64 0,.int .i64 0,.int .i64 0,.bool false,.int .i64 0,.int .i64 0] 58);simp only [World.size_alloc] at this;exact this))
 have HX2:Hid (∀ W,Below W0.heap.size W0 W→W.heap[w.heap.size+1+1]?=some (.cells #[.int .i64 1,.int .i64 0,.int .i64 0,.int .i64 0,.int .i64 0,.int .i64 0,.int .i64 0,.int .i64 0,.int .i64 0,.int .i64 0,.bool false,.int .i64 0,.int .i64 0] 58 (0,0))):=Lib.hid (fun W hb=>(hb.block _ (by rw [← HW0.out];simp;try omega)).trans (by rw [← HW0.out];have:=heap_alloc_new ((w.alloc (.cells #[.int .i64 b0,.int .i64 b1,.int .i64 b2,.int .i64 b3,.int .i64 b4,.int .i64 b5] 86)).alloc (.cells #[.int .i64 0,.int .i64 0,.int .i64 0,.int .i64 0,.int .i64 0,.int .i64 0,.int .i64 0,.int .i64 0,.int .i64 0,.int .i64 0,.bool false,.int .i64 0,.int .i64 0] 58)) (.cells #[.int .i64 1,.int .i64 0,.int .i64 0,.int .i64 0,.int .i64 0,.int .i64 0,.int .i64 0,.int .i64 0,.int .i64 0,.int .i64 0,.bool false,.int .i64 0,.int .i64 0] 58);simp only [World.size_alloc] at this;exact this))
 go_enter Try.func59,Try.ntmps59
 go_upto_region 4 with fail
 rw [HW0.out]
 have hsz:W0.heap.size=w.heap.size+1+1+1:=by rw [← HW0.out];simp
 refine wp_region_held_drew (S:=fun W=>Below (w.heap.size+1+1) W0 W) (by kernel_rfl) (Below.refl _ _).drew (fun _=>?_)
 obtain ⟨W1,hW1⟩:∃ x,x=W0.drew:=⟨_,rfl⟩
 rw [← hW1]
 have HB1:Hid (Below (w.heap.size+1+1) W0 W1):=Lib.hid (by rw [hW1];exact (Below.refl _ _).drew)
 have HG1:Hid (W1.heap[w.heap.size+1+1]?=some (.cells #[.int .i64 1,.int .i64 0,.int .i64 0,.int .i64 0,.int .i64 0,.int .i64 0,.int .i64 0,.int .i64 0,.int .i64 0,.int .i64 0,.bool false,.int .i64 0,.int .i64 0] 58 (0,0))):=Lib.hid (HX2.out W1 (by rw [hW1];exact (Below.refl _ _).drew))
 have HBX:Hid (∀ W,Below (w.heap.size+1+1) W0 W→W.heap[w.heap.size]?=some (.cells #[.int .i64 b0,.int .i64 b1,.int .i64 b2,.int .i64 b3,.int .i64 b4,.int .i64 b5] 86 (0,0))):=Lib.hid (fun W hb=>(hb.block _ (by omega)).trans (HX0.out W0 (Below.refl _ _)))
 clear hW1
 refine wpAnyH_take (i:=0) (v:=.pointer (some ⟨w.heap.size,0,none⟩)) rfl (by kernel_rfl) (by kernel_rfl) (by kernel_rfl) (fun _ _ _ h=>h) (Or.inl ⟨by kernel_rfl,?h0⟩) HB1.out ?_
 case h0=>(intro W9 hW9;go_simp)
 go_simp
 refine wpAnyH_take (i:=1) (v:=.int .i64 b0) rfl (by kernel_rfl) (by kernel_rfl) (by kernel_rfl) (fun _ _ _ h=>h) (Or.inl ⟨by kernel_rfl,?h1⟩) HB1.out ?_
 case h1=>(intro W9 hW9;obtain ⟨y0,y1,y2,y3,y4,y5⟩:=cells6 (HBX.out W9 hW9);go_simp)
 go_simp
 refine wpAnyH_take (i:=2) (v:=.pointer (some ⟨w.heap.size,1,none⟩)) rfl (by kernel_rfl) (by kernel_rfl) (by kernel_rfl) (fun _ _ _ h=>h) (Or.inl ⟨by kernel_rfl,?h2⟩) HB1.out ?_
 case h2=>(intro W9 hW9;go_simp)
 go_simp
 refine wpAnyH_take (i:=3) (v:=.int .i64 b1) rfl (by kernel_rfl) (by kernel_rfl) (by kernel_rfl) (fun _ _ _ h=>h) (Or.inl ⟨by kernel_rfl,?h3⟩) HB1.out ?_
 case h3=>(intro W9 hW9;obtain ⟨y0,y1,y2,y3,y4,y5⟩:=cells6 (HBX.out W9 hW9);go_simp)
 go_simp
 refine wpAnyH_take (i:=4) (v:=.pointer (some ⟨w.heap.size,2,none⟩)) rfl (by kernel_rfl) (by kernel_rfl) (by kernel_rfl) (fun _ _ _ h=>h) (Or.inl ⟨by kernel_rfl,?h4⟩) HB1.out ?_
 case h4=>(intro W9 hW9;go_simp)
 go_simp
 refine wpAnyH_take (i:=5) (v:=.int .i64 b2) rfl (by kernel_rfl) (by kernel_rfl) (by kernel_rfl) (fun _ _ _ h=>h) (Or.inl ⟨by kernel_rfl,?h5⟩) HB1.out ?_
 case h5=>(intro W9 hW9;obtain ⟨y0,y1,y2,y3,y4,y5⟩:=cells6 (HBX.out W9 hW9);go_simp)
 go_simp
 refine wpAnyH_take (i:=6) (v:=.pointer (some ⟨w.heap.size,3,none⟩)) rfl (by kernel_rfl) (by kernel_rfl) (by kernel_rfl) (fun _ _ _ h=>h) (Or.inl ⟨by kernel_rfl,?h6⟩) HB1.out ?_
 case h6=>(intro W9 hW9;go_simp)
 go_simp
 refine wpAnyH_take (i:=7) (v:=.int .i64 b3) rfl (by kernel_rfl) (by kernel_rfl) (by kernel_rfl) (fun _ _ _ h=>h) (Or.inl ⟨by kernel_rfl,?h7⟩) HB1.out ?_
 case h7=>(intro W9 hW9;obtain ⟨y0,y1,y2,y3,y4,y5⟩:=cells6 (HBX.out W9 hW9);go_simp)
 go_simp
 refine wpAnyH_take (i:=8) (v:=.pointer (some ⟨w.heap.size,4,none⟩)) rfl (by kernel_rfl) (by kernel_rfl) (by kernel_rfl) (fun _ _ _ h=>h) (Or.inl ⟨by kernel_rfl,?h8⟩) HB1.out ?_
 case h8=>(intro W9 hW9;go_simp)
 go_simp
 refine wpAnyH_take (i:=9) (v:=.int .i64 b4) rfl (by kernel_rfl) (by kernel_rfl) (by kernel_rfl) (fun _ _ _ h=>h) (Or.inl ⟨by kernel_rfl,?h9⟩) HB1.out ?_
 case h9=>(intro W9 hW9;obtain ⟨y0,y1,y2,y3,y4,y5⟩:=cells6 (HBX.out W9 hW9);go_simp)
 go_simp
 refine wpAnyH_take (i:=10) (v:=.pointer (some ⟨w.heap.size,5,none⟩)) rfl (by kernel_rfl) (by kernel_rfl) (by kernel_rfl) (fun _ _ _ h=>h) (Or.inl ⟨by kernel_rfl,?h10⟩) HB1.out ?_
 case h10=>(intro W9 hW9;go_simp)
 go_simp
 refine wpAnyH_take (i:=11) (v:=.int .i64 b5) rfl (by kernel_rfl) (by kernel_rfl) (by kernel_rfl) (fun _ _ _ h=>h) (Or.inl ⟨by kernel_rfl,?h11⟩) HB1.out ?_
 case h11=>(intro W9 hW9;obtain ⟨y0,y1,y2,y3,y4,y5⟩:=cells6 (HBX.out W9 hW9);go_simp)
 go_simp
 refine wpAnyH_take (i:=12) (v:=.pointer (some ⟨w.heap.size+1+1,1,none⟩)) rfl (by kernel_rfl) (by kernel_rfl) (by kernel_rfl) (fun _ _ _ h=>h) (Or.inl ⟨by kernel_rfl,?h12⟩) HB1.out ?_
 case h12=>(intro W9 hW9;go_simp)
 go_simp
 obtain ⟨u0,t0⟩:=block_cell HG1.out 1 (.int .i64 0) rfl
 refine wpAnyH_ready (rs:=[13]) (by kernel_rfl) (by simp) ?_
 refine AllReadyH.cons rfl (fun K hK=>?_) AllReadyH.nil
 go_simp
 obtain ⟨W2,hW2⟩:∃ x,x=W1.setCell ⟨w.heap.size+1+1,1,none⟩ (.int .i64 b0):=⟨_,rfl⟩
 rw [← hW2]
 have HB2:Hid (Below (w.heap.size+1+1) W0 W2):=Lib.hid (by rw [hW2];exact HB1.out.setCell (p:=⟨w.heap.size+1+1,1,none⟩) (Nat.le_refl _) _)
 have HG2:Hid (W2.heap[w.heap.size+1+1]?=some (.cells #[.int .i64 1,.int .i64 b0,.int .i64 0,.int .i64 0,.int .i64 0,.int .i64 0,.int .i64 0,.int .i64 0,.int .i64 0,.int .i64 0,.bool false,.int .i64 0,.int .i64 0] 58 (0,0))):=Lib.hid (by rw [hW2];have:=heap_setCell_same W1 (w.heap.size+1+1) 1 _ 58 (.int .i64 b0) HG1.out;simpa using this)
 clear hW2 u0 t0
 refine hK.out _ _ HB2.out (fun _=>?_)
 clear hK K
 go_simp
 refine wpAnyH_take (i:=14) (v:=.pointer (some ⟨w.heap.size+1+1,2,none⟩)) rfl (by kernel_rfl) (by kernel_rfl) (by kernel_rfl) (fun _ _ _ h=>h) (Or.inl ⟨by kernel_rfl,?h14⟩) HB2.out ?_
 case h14=>(intro W9 hW9;go_simp)
 go_simp
 obtain ⟨u1,t1⟩:=block_cell HG2.out 2 (.int .i64 0) rfl
 refine wpAnyH_ready (rs:=[15]) (by kernel_rfl) (by simp) ?_
 refine AllReadyH.cons rfl (fun K hK=>?_) AllReadyH.nil
 go_simp
 obtain ⟨W3,hW3⟩:∃ x,x=W2.setCell ⟨w.heap.size+1+1,2,none⟩ (.int .i64 b1):=⟨_,rfl⟩
 rw [← hW3]
 have HB3:Hid (Below (w.heap.size+1+1) W0 W3):=Lib.hid (by rw [hW3];exact HB2.out.setCell (p:=⟨w.heap.size+1+1,2,none⟩) (Nat.le_refl _) _)
 have HG3:Hid (W3.heap[w.heap.size+1+1]?=some (.cells #[.int .i64 1,.int .i64 b0,.int .i64 b1,.int .i64 0,.int .i64 0,.int .i64 0,.int .i64 0,.int .i64 0,.int .i64 0,.int .i64 0,.bool false,.int .i64 0,.int .i64 0] 58 (0,0))):=Lib.hid (by rw [hW3];have:=heap_setCell_same W2 (w.heap.size+1+1) 2 _ 58 (.int .i64 b1) HG2.out;simpa using this)
 clear hW3 u1 t1
 refine hK.out _ _ HB3.out (fun _=>?_)
 clear hK K
 go_simp
 refine wpAnyH_take (i:=16) (v:=.pointer (some ⟨w.heap.size+1+1,3,none⟩)) rfl (by kernel_rfl) (by kernel_rfl) (by kernel_rfl) (fun _ _ _ h=>h) (Or.inl ⟨by kernel_rfl,?h16⟩) HB3.out ?_
 case h16=>(intro W9 hW9;go_simp)
 go_simp
 obtain ⟨u2,t2⟩:=block_cell HG3.out 3 (.int .i64 0) rfl
 refine wpAnyH_ready (rs:=[17]) (by kernel_rfl) (by simp) ?_
 refine AllReadyH.cons rfl (fun K hK=>?_) AllReadyH.nil
 go_simp
 obtain ⟨W4,hW4⟩:∃ x,x=W3.setCell ⟨w.heap.size+1+1,3,none⟩ (.int .i64 b2):=⟨_,rfl⟩
 rw [← hW4]
 have HB4:Hid (Below (w.heap.size+1+1) W0 W4):=Lib.hid (by rw [hW4];exact HB3.out.setCell (p:=⟨w.heap.size+1+1,3,none⟩) (Nat.le_refl _) _)
 have HG4:Hid (W4.heap[w.heap.size+1+1]?=some (.cells #[.int .i64 1,.int .i64 b0,.int .i64 b1,.int .i64 b2,.int .i64 0,.int .i64 0,.int .i64 0,.int .i64 0,.int .i64 0,.int .i64 0,.bool false,.int .i64 0,.int .i64 0] 58 (0,0))):=Lib.hid (by rw [hW4];have:=heap_setCell_same W3 (w.heap.size+1+1) 3 _ 58 (.int .i64 b2) HG3.out;simpa using this)
 clear hW4 u2 t2
 refine hK.out _ _ HB4.out (fun _=>?_)
 clear hK K
 go_simp
 refine wpAnyH_take (i:=18) (v:=.pointer (some ⟨w.heap.size+1+1,4,none⟩)) rfl (by kernel_rfl) (by kernel_rfl) (by kernel_rfl) (fun _ _ _ h=>h) (Or.inl ⟨by kernel_rfl,?h18⟩) HB4.out ?_
 case h18=>(intro W9 hW9;go_simp)
 go_simp
 obtain ⟨u3,t3⟩:=block_cell HG4.out 4 (.int .i64 0) rfl
 refine wpAnyH_ready (rs:=[19]) (by kernel_rfl) (by simp) ?_
 refine AllReadyH.cons rfl (fun K hK=>?_) AllReadyH.nil
 go_simp
 obtain ⟨W5,hW5⟩:∃ x,x=W4.setCell ⟨w.heap.size+1+1,4,none⟩ (.int .i64 b3):=⟨_,rfl⟩
 rw [← hW5]
 have HB5:Hid (Below (w.heap.size+1+1) W0 W5):=Lib.hid (by rw [hW5];exact HB4.out.setCell (p:=⟨w.heap.size+1+1,4,none⟩) (Nat.le_refl _) _)
 have HG5:Hid (W5.heap[w.heap.size+1+1]?=some (.cells #[.int .i64 1,.int .i64 b0,.int .i64 b1,.int .i64 b2,.int .i64 b3,.int .i64 0,.int .i64 0,.int .i64 0,.int .i64 0,.int .i64 0,.bool false,.int .i64 0,.int .i64 0] 58 (0,0))):=Lib.hid (by rw [hW5];have:=heap_setCell_same W4 (w.heap.size+1+1) 4 _ 58 (.int .i64 b3) HG4.out;simpa using this)
 clear hW5 u3 t3
 refine hK.out _ _ HB5.out (fun _=>?_)
 clear hK K
 go_simp
 refine wpAnyH_take (i:=20) (v:=.pointer (some ⟨w.heap.size+1+1,5,none⟩)) rfl (by kernel_rfl) (by kernel_rfl) (by kernel_rfl) (fun _ _ _ h=>h) (Or.inl ⟨by kernel_rfl,?h20⟩) HB5.out ?_
 case h20=>(intro W9 hW9;go_simp)
 go_simp
 obtain ⟨u4,t4⟩:=block_cell HG5.out 5 (.int .i64 0) rfl
 refine wpAnyH_ready (rs:=[21]) (by kernel_rfl) (by simp) ?_
 refine AllReadyH.cons rfl (fun K hK=>?_) AllReadyH.nil
 go_simp
 obtain ⟨W6,hW6⟩:∃ x,x=W5.setCell ⟨w.heap.size+1+1,5,none⟩ (.int .i64 b4):=⟨_,rfl⟩
 rw [← hW6]
 have HB6:Hid (Below (w.heap.size+1+1) W0 W6):=Lib.hid (by rw [hW6];exact HB5.out.setCell (p:=⟨w.heap.size+1+1,5,none⟩) (Nat.le_refl _) _)
 have HG6:Hid (W6.heap[w.heap.size+1+1]?=some (.cells #[.int .i64 1,.int .i64 b0,.int .i64 b1,.int .i64 b2,.int .i64 b3,.int .i64 b4,.int .i64 0,.int .i64 0,.int .i64 0,.int .i64 0,.bool false,.int .i64 0,.int .i64 0] 58 (0,0))):=Lib.hid (by rw [hW6];have:=heap_setCell_same W5 (w.heap.size+1+1) 5 _ 58 (.int .i64 b4) HG5.out;simpa using this)
 clear hW6 u4 t4
 refine hK.out _ _ HB6.out (fun _=>?_)
 clear hK K
 go_simp
 refine wpAnyH_take (i:=22) (v:=.pointer (some ⟨w.heap.size+1+1,6,none⟩)) rfl (by kernel_rfl) (by kernel_rfl) (by kernel_rfl) (fun _ _ _ h=>h) (Or.inl ⟨by kernel_rfl,?h22⟩) HB6.out ?_
 case h22=>(intro W9 hW9;go_simp)
 go_simp
 obtain ⟨u5,t5⟩:=block_cell HG6.out 6 (.int .i64 0) rfl
 refine wpAnyH_ready (rs:=[23]) (by kernel_rfl) (by simp) ?_
 refine AllReadyH.cons rfl (fun K hK=>?_) AllReadyH.nil
 go_simp
 obtain ⟨W7,hW7⟩:∃ x,x=W6.setCell ⟨w.heap.size+1+1,6,none⟩ (.int .i64 b5):=⟨_,rfl⟩
 rw [← hW7]
 have HB7:Hid (Below (w.heap.size+1+1) W0 W7):=Lib.hid (by rw [hW7];exact HB6.out.setCell (p:=⟨w.heap.size+1+1,6,none⟩) (Nat.le_refl _) _)
 have HG7:Hid (W7.heap[w.heap.size+1+1]?=some (.cells #[.int .i64 1,.int .i64 b0,.int .i64 b1,.int .i64 b2,.int .i64 b3,.int .i64 b4,.int .i64 b5,.int .i64 0,.int .i64 0,.int .i64 0,.bool false,.int .i64 0,.int .i64 0] 58 (0,0))):=Lib.hid (by rw [hW7];have:=heap_setCell_same W6 (w.heap.size+1+1) 6 _ 58 (.int .i64 b5) HG6.out;simpa using this)
 clear hW7 u5 t5
 refine hK.out _ _ HB7.out (fun _=>?_)
 clear hK K
 go_simp
 refine wpAnyH_done (by kernel_rfl) ?_ _
 obtain ⟨c0,c1,c2,c3,c4,c5,c6,c7,c8,c9,c10,c11,c12⟩:=cells13 HG7.out
 have hwh:World.whole W7 (w.heap.size+1) 13 58:=whole_of ((HB7.out.block _ (by omega)).trans (HX1.out W0 (Below.refl _ _))) rfl
 go_wp2_with (refine wpList_store_whole 58 (.tmp 4) (.tmp 85) (w.heap.size+1) 13 _ 58 (by rfl) (by rfl) hwh (by rfl) (by kernel_rfl) (by kernel_rfl) ?_)
 obtain ⟨v0,v1,v2,v3,v4,v5,v6,v7,v8,v9,v10,v11,v12⟩:=cells13 (setAll_self (vs:=#[.int .i64 1,.int .i64 b0,.int .i64 b1,.int .i64 b2,.int .i64 b3,.int .i64 b4,.int .i64 b5,.int .i64 0,.int .i64 0,.int .i64 0,.bool false,.int .i64 0,.int .i64 0]) hwh rfl)
 exact bodyPost_ret (v:=.agg #[.int .i64 1,.int .i64 b0,.int .i64 b1,.int .i64 b2,.int .i64 b3,.int .i64 b4,.int .i64 b5,.int .i64 0,.int .i64 0,.int .i64 0,.bool false,.int .i64 0,.int .i64 0]) (by simp [results,Try.results59,go_sem,v0,v1,v2,v3,v4,v5,v6,v7,v8,v9,v10,v11,v12]) rfl ⟨rfl,setAll_below (HBW.out.trans (HB7.out.mono (by omega))) (by omega)⟩
theorem read_2 (b0 b1 b2 b3 b4 b5:Int) (w:World):Calls Try.prog 59 #[.int .i64 2,.agg #[.int .i64 b0,.int .i64 b1,.int .i64 b2,.int .i64 b3,.int .i64 b4,.int .i64 b5]] w fun e w'=>e = .returned (.agg #[.int .i64 2,.int .i64 b0,.int .i64 0,.int .i64 0,.int .i64 0,.int .i64 b1,.int .i64 b2,.int .i64 0,.int .i64 0,.int .i64 0,.bool false,.int .i64 0,.int .i64 0])∧Below w.heap.size w w':=by
 go_enter Try.func59,Try.ntmps59
 go_upto_region 6 with fail
 go_region
 go_wp2
 exact bodyPost_ret (v:=.agg #[.int .i64 2,.int .i64 b0,.int .i64 0,.int .i64 0,.int .i64 0,.int .i64 b1,.int .i64 b2,.int .i64 0,.int .i64 0,.int .i64 0,.bool false,.int .i64 0,.int .i64 0]) (by simp [results,Try.results59,go_sem]) rfl ⟨rfl,((((Below.refl _ _).alloc (Nat.le_refl _) _).alloc (by simp) _).alloc (by simp;omega) _).drew⟩
theorem read_3 (b0 b1 b2 b3 b4 b5:Int) (w:World):Calls Try.prog 59 #[.int .i64 3,.agg #[.int .i64 b0,.int .i64 b1,.int .i64 b2,.int .i64 b3,.int .i64 b4,.int .i64 b5]] w fun e w'=>e = .returned (.agg #[.int .i64 3,.int .i64 b0,.int .i64 0,.int .i64 0,.int .i64 0,.int .i64 0,.int .i64 0,.int .i64 0,.int .i64 0,.int .i64 0,.bool false,.int .i64 0,.int .i64 0])∧Below w.heap.size w w':=by
 go_enter Try.func59,Try.ntmps59
 go_wp2
 exact bodyPost_ret (v:=.agg #[.int .i64 3,.int .i64 b0,.int .i64 0,.int .i64 0,.int .i64 0,.int .i64 0,.int .i64 0,.int .i64 0,.int .i64 0,.int .i64 0,.bool false,.int .i64 0,.int .i64 0]) (by simp [results,Try.results59,go_sem]) rfl ⟨rfl,((((Below.refl _ _).alloc (Nat.le_refl _) _).alloc (by simp) _).alloc (by simp;omega) _)⟩
theorem read_4 (b0 b1 b2 b3 b4 b5:Int) (w:World):Calls Try.prog 59 #[.int .i64 4,.agg #[.int .i64 b0,.int .i64 b1,.int .i64 b2,.int .i64 b3,.int .i64 b4,.int .i64 b5]] w fun e w'=>e = .returned (.agg #[.int .i64 4,.int .i64 0,.int .i64 b0,.int .i64 b1,.int .i64 0,.int .i64 0,.int .i64 0,.int .i64 b2,.int .i64 b3,.int .i64 b4,.bool false,.int .i64 0,.int .i64 0])∧Below w.heap.size w w':=by
 go_enter Try.func59,Try.ntmps59
 go_upto_region 10 with fail
 go_region
 go_wp2
 exact bodyPost_ret (v:=.agg #[.int .i64 4,.int .i64 0,.int .i64 b0,.int .i64 b1,.int .i64 0,.int .i64 0,.int .i64 0,.int .i64 b2,.int .i64 b3,.int .i64 b4,.bool false,.int .i64 0,.int .i64 0]) (by simp [results,Try.results59,go_sem]) rfl ⟨rfl,((((Below.refl _ _).alloc (Nat.le_refl _) _).alloc (by simp) _).alloc (by simp;omega) _).drew⟩
theorem read_6 (b0 b1 b2 b3 b4 b5:Int) (w:World):Calls Try.prog 59 #[.int .i64 6,.agg #[.int .i64 b0,.int .i64 b1,.int .i64 b2,.int .i64 b3,.int .i64 b4,.int .i64 b5]] w fun e w'=>e = .returned (.agg #[.int .i64 6,.int .i64 b2,.int .i64 0,.int .i64 0,.int .i64 0,.int .i64 b3,.int .i64 b4,.int .i64 0,.int .i64 0,.int .i64 0,.bool false,.int .i64 b0,.int .i64 b1])∧Below w.heap.size w w':=by
 go_enter Try.func59,Try.ntmps59
 go_upto_region 14 with fail
 go_region
 go_wp2
 exact bodyPost_ret (v:=.agg #[.int .i64 6,.int .i64 b2,.int .i64 0,.int .i64 0,.int .i64 0,.int .i64 b3,.int .i64 b4,.int .i64 0,.int .i64 0,.int .i64 0,.bool false,.int .i64 b0,.int .i64 b1]) (by simp [results,Try.results59,go_sem]) rfl ⟨rfl,((((Below.refl _ _).alloc (Nat.le_refl _) _).alloc (by simp) _).alloc (by simp;omega) _).drew⟩
theorem read_5a (b1 b2 b3 b4 b5:Int) (w:World):Calls Try.prog 59 #[.int .i64 5,.agg #[.int .i64 1,.int .i64 b1,.int .i64 b2,.int .i64 b3,.int .i64 b4,.int .i64 b5]] w fun e w'=>e = .returned (.agg #[.int .i64 5,.int .i64 0,.int .i64 0,.int .i64 0,.int .i64 0,.int .i64 0,.int .i64 0,.int .i64 0,.int .i64 0,.int .i64 0,.bool true,.int .i64 0,.int .i64 0])∧Below w.heap.size w w':=by
 go_enter Try.func59,Try.ntmps59
 go_wp2
 exact bodyPost_ret (v:=.agg #[.int .i64 5,.int .i64 0,.int .i64 0,.int .i64 0,.int .i64 0,.int .i64 0,.int .i64 0,.int .i64 0,.int .i64 0,.int .i64 0,.bool true,.int .i64 0,.int .i64 0]) (by simp [results,Try.results59,go_sem]) rfl ⟨rfl,((((Below.refl _ _).alloc (Nat.le_refl _) _).alloc (by simp) _).alloc (by simp;omega) _)⟩
theorem read_5b (b0 b1 b2 b3 b4 b5:Int) (w:World) (hb:(b0 == 1)=false):Calls Try.prog 59 #[.int .i64 5,.agg #[.int .i64 b0,.int .i64 b1,.int .i64 b2,.int .i64 b3,.int .i64 b4,.int .i64 b5]] w fun e w'=>e = .returned (.agg #[.int .i64 5,.int .i64 0,.int .i64 0,.int .i64 0,.int .i64 0,.int .i64 0,.int .i64 0,.int .i64 0,.int .i64 0,.int .i64 0,.bool false,.int .i64 0,.int .i64 0])∧Below w.heap.size w w':=by
 go_enter Try.func59,Try.ntmps59
 go_wp2
 exact bodyPost_ret (v:=.agg #[.int .i64 5,.int .i64 0,.int .i64 0,.int .i64 0,.int .i64 0,.int .i64 0,.int .i64 0,.int .i64 0,.int .i64 0,.int .i64 0,.bool false,.int .i64 0,.int .i64 0]) (by simp [results,Try.results59,go_sem]) rfl ⟨rfl,((((Below.refl _ _).alloc (Nat.le_refl _) _).alloc (by simp) _).alloc (by simp;omega) _)⟩
theorem read_0 (k b0 b1 b2 b3 b4 b5:Int) (w:World) (h1:(k == 1)=false) (h2:(k == 2)=false) (h3:(k == 3)=false) (h4:(k == 4)=false) (h5:(k == 5)=false) (h6:(k == 6)=false):Calls Try.prog 59 #[.int .i64 k,.agg #[.int .i64 b0,.int .i64 b1,.int .i64 b2,.int .i64 b3,.int .i64 b4,.int .i64 b5]] w fun e w'=>e = .returned (.agg #[.int .i64 k,.int .i64 0,.int .i64 0,.int .i64 0,.int .i64 0,.int .i64 0,.int .i64 0,.int .i64 0,.int .i64 0,.int .i64 0,.bool false,.int .i64 0,.int .i64 0])∧Below w.heap.size w w':=by
 go_enter Try.func59,Try.ntmps59
 go_wp2
 exact bodyPost_ret (v:=.agg #[.int .i64 k,.int .i64 0,.int .i64 0,.int .i64 0,.int .i64 0,.int .i64 0,.int .i64 0,.int .i64 0,.int .i64 0,.int .i64 0,.bool false,.int .i64 0,.int .i64 0]) (by simp [results,Try.results59,go_sem]) rfl ⟨rfl,((((Below.refl _ _).alloc (Nat.le_refl _) _).alloc (by simp) _).alloc (by simp;omega) _)⟩
theorem read_is (k b0 b1 b2 b3 b4 b5:Int) {k1 o1 a1 y1 d1 q1 p1 l1 s1 n1 z1 t1:Int} {on1:Bool} (h:rd k ⟨b0,b1,b2,b3,b4,b5⟩=⟨k1,o1,a1,y1,d1,q1,p1,l1,s1,n1,on1,z1,t1⟩) (w:World):Calls Try.prog 59 #[.int .i64 k,.agg #[.int .i64 b0,.int .i64 b1,.int .i64 b2,.int .i64 b3,.int .i64 b4,.int .i64 b5]] w fun e w'=>e = .returned (.agg #[.int .i64 k1,.int .i64 o1,.int .i64 a1,.int .i64 y1,.int .i64 d1,.int .i64 q1,.int .i64 p1,.int .i64 l1,.int .i64 s1,.int .i64 n1,.bool on1,.int .i64 z1,.int .i64 t1])∧Below w.heap.size w w':=by
 unfold rd at h
 simp only at h
 by_cases h1:k=1
 ·subst h1;rw [if_pos rfl] at h;simp only [Rc.mk.injEq] at h;obtain ⟨rfl,rfl,rfl,rfl,rfl,rfl,rfl,rfl,rfl,rfl,rfl,rfl,rfl⟩:=h;exact read_1 b0 b1 b2 b3 b4 b5 w
 by_cases h2:k=2
 ·subst h2;rw [if_neg h1,if_pos rfl] at h;simp only [Rc.mk.injEq] at h;obtain ⟨rfl,rfl,rfl,rfl,rfl,rfl,rfl,rfl,rfl,rfl,rfl,rfl,rfl⟩:=h;exact read_2 b0 b1 b2 b3 b4 b5 w
 by_cases h3:k=3
 ·subst h3;rw [if_neg h1,if_neg h2,if_pos rfl] at h;simp only [Rc.mk.injEq] at h;obtain ⟨rfl,rfl,rfl,rfl,rfl,rfl,rfl,rfl,rfl,rfl,rfl,rfl,rfl⟩:=h;exact read_3 b0 b1 b2 b3 b4 b5 w
 by_cases h4:k=4
 ·subst h4;rw [if_neg h1,if_neg h2,if_neg h3,if_pos rfl] at h;simp only [Rc.mk.injEq] at h;obtain ⟨rfl,rfl,rfl,rfl,rfl,rfl,rfl,rfl,rfl,rfl,rfl,rfl,rfl⟩:=h;exact read_4 b0 b1 b2 b3 b4 b5 w
 by_cases h5:k=5
 ·subst h5;rw [if_neg h1,if_neg h2,if_neg h3,if_neg h4,if_pos rfl] at h;simp only [Rc.mk.injEq] at h
  by_cases hb:b0=1
  ·subst hb;obtain ⟨rfl,rfl,rfl,rfl,rfl,rfl,rfl,rfl,rfl,rfl,rfl,rfl,rfl⟩:=h;exact read_5a b1 b2 b3 b4 b5 w
  ·rw [decide_eq_false hb] at h;obtain ⟨rfl,rfl,rfl,rfl,rfl,rfl,rfl,rfl,rfl,rfl,rfl,rfl,rfl⟩:=h;exact read_5b b0 b1 b2 b3 b4 b5 w (by simpa using hb)
 by_cases h6:k=6
 ·subst h6;rw [if_neg h1,if_neg h2,if_neg h3,if_neg h4,if_neg h5,if_pos rfl] at h;simp only [Rc.mk.injEq] at h;obtain ⟨rfl,rfl,rfl,rfl,rfl,rfl,rfl,rfl,rfl,rfl,rfl,rfl,rfl⟩:=h;exact read_6 b0 b1 b2 b3 b4 b5 w
 ·rw [if_neg h1,if_neg h2,if_neg h3,if_neg h4,if_neg h5,if_neg h6] at h;simp only [Rc.mk.injEq] at h;obtain ⟨rfl,rfl,rfl,rfl,rfl,rfl,rfl,rfl,rfl,rfl,rfl,rfl,rfl⟩:=h
  exact read_0 k b0 b1 b2 b3 b4 b5 w (by simpa using h1) (by simpa using h2) (by simpa using h3) (by simpa using h4) (by simpa using h5) (by simpa using h6)
end Go.Proofs.Ytcpahggkioagkaa.rec
