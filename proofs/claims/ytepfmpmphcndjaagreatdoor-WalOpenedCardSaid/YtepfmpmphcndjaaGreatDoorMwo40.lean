/-
  DiskRef8
-/
import Derived.Test.YtepfmpmphcndjaaGreatDoorMwo12
import Derived.Deep.RegionWith
set_option linter.unusedVariables false
set_option linter.unusedSimpArgs false
namespace Go.Proofs.YtepfmpmphcndjaaGreatDoor.disk
set_option maxRecDepth 20000
open Go.RowKit
set_option maxHeartbeats 6000000 in
theorem rremove (A:Option Addr) (n c:Nat) (room fuse:Int) (down:Bool) (nm:ByteArray) (fs:List FileD) (S:Nat→Prop) (w:World) (hS:∀ b,S b→b < w.heap.size) (hf:FilesIn w S A fs) (hn:fs.length=n) (hc:n≤1000000) (hnc:n≤c) (hcm:c≤maxLen) (hr:inI room) (hfu:inI fuse) (ha:nm.size≤maxLen) :
  Calls Tryz.prog 43 #[.agg #[.slice A n c,.int .i64 room,.int .i64 fuse,.bool down],.string nm] w (RetOp S w (removeD ⟨fs,room,fuse,down⟩ nm)):=by
 have HN:Hid (fs.length=n):=Lib.hid hn
 have HC:Hid (n≤maxLen):=Lib.hid (by unfold maxLen;omega)
 have HNC:=Lib.hid hnc
 have HCM:=Lib.hid hcm
 have HA:=Lib.hid ha
 have HF:Hid (∀ W,Below w.heap.size w W→Files W w.heap.size A fs):=Lib.hid (fun W h=>hf.files hS h)
 have HFI:Hid (∀ W,Below w.heap.size w W→FilesIn W S A fs):=Lib.hid (fun W h=>hf.below hS h)
 clear hn ha hnc hcm
 have hw0:∀ o1 o2:Obj,Below w.heap.size w ((w.alloc o1).alloc o2):=fun o1 o2=>((Below.refl _ _).alloc (Nat.le_refl _) o1).alloc (by simp) o2
 have HW0:=Lib.hid hw0
 clear hw0
 have K0:Hid (((w.alloc (.cells #[.slice A n c,.int .i64 room,.int .i64 fuse,.bool down] 27)).alloc (.cells #[.slice none 0 0,.int .i64 0,.int .i64 0,.bool false] 27)).heap[w.heap.size]?=some (.cells #[.slice A n c,.int .i64 room,.int .i64 fuse,.bool down] 27 (0,0))):=Lib.hid (by
  rw [Below.heap_alloc _ _ _ (by simp)];exact heap_alloc_new w _)
 have K1:Hid (((w.alloc (.cells #[.slice A n c,.int .i64 room,.int .i64 fuse,.bool down] 27)).alloc (.cells #[.slice none 0 0,.int .i64 0,.int .i64 0,.bool false] 27)).heap[w.heap.size+1]?=some (.cells #[.slice none 0 0,.int .i64 0,.int .i64 0,.bool false] 27 (0,0))):=Lib.hid (by
  simpa using heap_alloc_new (w.alloc (.cells #[.slice A n c,.int .i64 room,.int .i64 fuse,.bool down] 27)) (.cells #[.slice none 0 0,.int .i64 0,.int .i64 0,.bool false] 27))
 obtain ⟨x,hx⟩:∃ x,Hid (firstE ⟨fs,room,fuse,down⟩ nm nm=x):=⟨_,Lib.hid rfl⟩
 by_cases hx0:x=0
 ·subst hx0
  rcases findI_look nm fs with ⟨g1,g2⟩ | ⟨k,f,g1,g2,g3⟩
  ·have HG:=Lib.hid g1
   have HR:Hid (removeD ⟨fs,room,fuse,down⟩ nm=(⟨fs,room,fuse,down⟩,7)):=Lib.hid (op_pre hx.out (by unfold noE;rw [if_pos g2]) (by simp))
   clear g1 g2
   go_enter Tryz.func43,Tryz.ntmps43
   go_wp2_with (first
    |((with_reducible refine (rfirst_is _ _ _ w.heap.size _ _ _ fs _ _ _ _ (by simp<;>omega) (HF.out _ (HW0.out _ _)) HN.out HC.out hr hfu HA.out HA.out hx.out).mono ?_);rintro e w1 ⟨rfl,hg1⟩;have hgw1:=(HW0.out _ _).trans (hg1.mono (by simp<;>omega));have hs1:w.heap.size+2≤w1.heap.size:=(by have:=hg1.size;simp at this;omega);have E0_1:=Lib.hid ((hg1.block w.heap.size (by simp<;>omega)).trans K0.out);have E1_1:=Lib.hid ((hg1.block (w.heap.size+1) (by simp<;>omega)).trans K1.out);obtain ⟨x0_1,f0_1⟩:=block_cell E0_1.out 0 _ rfl;obtain ⟨x1_1,f1_1⟩:=block_cell E0_1.out 1 _ rfl;obtain ⟨x2_1,f2_1⟩:=block_cell E0_1.out 2 _ rfl;obtain ⟨x3_1,f3_1⟩:=block_cell E0_1.out 3 _ rfl;obtain ⟨y0_1,g0_1⟩:=block_cell E1_1.out 0 _ rfl;obtain ⟨y1_1,g1_1⟩:=block_cell E1_1.out 1 _ rfl;obtain ⟨y2_1,g2_1⟩:=block_cell E1_1.out 2 _ rfl;obtain ⟨y3_1,g3_1⟩:=block_cell E1_1.out 3 _ rfl)
    |((with_reducible refine (rfind_is _ _ _ w.heap.size _ _ _ _ fs _ _ hgw1.size (HF.out _ hgw1) HN.out HC.out HG.out).mono ?_);rintro e w2 ⟨rfl,hg2⟩;have hgw2:=hgw1.trans (hg2.mono hgw1.size);have hs2:w.heap.size+2≤w2.heap.size:=(by have:=hg2.size;omega);have E0_2:=Lib.hid ((hg2.block w.heap.size (by omega)).trans E0_1.out);have E1_2:=Lib.hid ((hg2.block (w.heap.size+1) (by omega)).trans E1_1.out);obtain ⟨x0_2,f0_2⟩:=block_cell E0_2.out 0 _ rfl;obtain ⟨x1_2,f1_2⟩:=block_cell E0_2.out 1 _ rfl;obtain ⟨x2_2,f2_2⟩:=block_cell E0_2.out 2 _ rfl;obtain ⟨x3_2,f3_2⟩:=block_cell E0_2.out 3 _ rfl;obtain ⟨y0_2,g0_2⟩:=block_cell E1_2.out 0 _ rfl;obtain ⟨y1_2,g1_2⟩:=block_cell E1_2.out 1 _ rfl;obtain ⟨y2_2,g2_2⟩:=block_cell E1_2.out 2 _ rfl;obtain ⟨y3_2,g3_2⟩:=block_cell E1_2.out 3 _ rfl))
   refine bodyPost_ret (v:=.tuple #[.agg #[.slice A n c,.int .i64 room,.int .i64 fuse,.bool down],.int .i64 7]) (by simp [results,Tryz.results43,go_sem,y0_2,y1_2,y2_2,y3_2]) rfl ?_
   rw [HR.out]
   exact ⟨A,n,c,rfl,files_old hf hS (below_set4 hgw2 (by omega) _ _ _ _),HN,HNC.out,HCM.out,below_set4 hgw2 (by omega) _ _ _ _⟩
  ·have HG:=Lib.hid g1
   have hk:k < fs.length:=(List.getElem?_eq_some_iff.1 g2).1
   obtain ⟨b,off,f',A',n',c',rfl,hbS,HX,cell0,cell1,cell2,q1,q2,q3,q4,q5,q6⟩:=hf.at_ hk
   have hbw:=hS b hbS
   obtain rfl:f=f':=by have:=HX.out;rw [g2] at this;injection this
   rw [HN.out] at hk
   have HL:Hid (look nm fs=some f):=Lib.hid g3
   have HOLD:Hid (oldOf nm fs=f):=Lib.hid (by unfold oldOf;rw [g3];rfl)
   clear g1 g2 g3 hbS
   by_cases hz:fuse=0
   ·have HZ:=Lib.hid hz
    clear hz
    have HR:Hid (removeD ⟨fs,room,fuse,down⟩ nm=(⟨fs,room,0,true⟩,9)):=Lib.hid (op_down hx.out (by unfold noE;rw [HL.out];simp) HZ.out)
    go_enter Tryz.func43,Tryz.ntmps43
    go_wp2_with (first
     |((with_reducible refine (rfirst_is _ _ _ w.heap.size _ _ _ fs _ _ _ _ (by simp<;>omega) (HF.out _ (HW0.out _ _)) HN.out HC.out hr hfu HA.out HA.out hx.out).mono ?_);rintro e w1 ⟨rfl,hg1⟩;have hgw1:=(HW0.out _ _).trans (hg1.mono (by simp<;>omega));have hs1:w.heap.size+2≤w1.heap.size:=(by have:=hg1.size;simp at this;omega);have E0_1:=Lib.hid ((hg1.block w.heap.size (by simp<;>omega)).trans K0.out);have E1_1:=Lib.hid ((hg1.block (w.heap.size+1) (by simp<;>omega)).trans K1.out);obtain ⟨x0_1,f0_1⟩:=block_cell E0_1.out 0 _ rfl;obtain ⟨x1_1,f1_1⟩:=block_cell E0_1.out 1 _ rfl;obtain ⟨x2_1,f2_1⟩:=block_cell E0_1.out 2 _ rfl;obtain ⟨x3_1,f3_1⟩:=block_cell E0_1.out 3 _ rfl;obtain ⟨y0_1,g0_1⟩:=block_cell E1_1.out 0 _ rfl;obtain ⟨y1_1,g1_1⟩:=block_cell E1_1.out 1 _ rfl;obtain ⟨y2_1,g2_1⟩:=block_cell E1_1.out 2 _ rfl;obtain ⟨y3_1,g3_1⟩:=block_cell E1_1.out 3 _ rfl)
     |((with_reducible refine (rfind_is _ _ _ w.heap.size _ _ _ _ fs _ _ hgw1.size (HF.out _ hgw1) HN.out HC.out HG.out).mono ?_);rintro e w2 ⟨rfl,hg2⟩;have hgw2:=hgw1.trans (hg2.mono hgw1.size);have hs2:w.heap.size+2≤w2.heap.size:=(by have:=hg2.size;omega);have E0_2:=Lib.hid ((hg2.block w.heap.size (by omega)).trans E0_1.out);have E1_2:=Lib.hid ((hg2.block (w.heap.size+1) (by omega)).trans E1_1.out);obtain ⟨x0_2,f0_2⟩:=block_cell E0_2.out 0 _ rfl;obtain ⟨x1_2,f1_2⟩:=block_cell E0_2.out 1 _ rfl;obtain ⟨x2_2,f2_2⟩:=block_cell E0_2.out 2 _ rfl;obtain ⟨x3_2,f3_2⟩:=block_cell E0_2.out 3 _ rfl;obtain ⟨y0_2,g0_2⟩:=block_cell E1_2.out 0 _ rfl;obtain ⟨y1_2,g1_2⟩:=block_cell E1_2.out 1 _ rfl;obtain ⟨y2_2,g2_2⟩:=block_cell E1_2.out 2 _ rfl;obtain ⟨y3_2,g3_2⟩:=block_cell E1_2.out 3 _ rfl)
     |((with_reducible refine (rpower _ _ _ _ _ _ _ _ _ _ hfu (power_off HZ.out)).mono ?_);rintro e w3 ⟨rfl,hg3⟩;have hgw3:=hgw2.trans (hg3.mono hgw2.size);have hs3:w.heap.size+2≤w3.heap.size:=(by have:=hg3.size;omega);have E0_3:=Lib.hid ((hg3.block w.heap.size (by omega)).trans E0_2.out);have E1_3:=Lib.hid ((hg3.block (w.heap.size+1) (by omega)).trans E1_2.out);obtain ⟨x0_3,f0_3⟩:=block_cell E0_3.out 0 _ rfl;obtain ⟨x1_3,f1_3⟩:=block_cell E0_3.out 1 _ rfl;obtain ⟨x2_3,f2_3⟩:=block_cell E0_3.out 2 _ rfl;obtain ⟨x3_3,f3_3⟩:=block_cell E0_3.out 3 _ rfl;obtain ⟨y0_3,g0_3⟩:=block_cell E1_3.out 0 _ rfl;obtain ⟨y1_3,g1_3⟩:=block_cell E1_3.out 1 _ rfl;obtain ⟨y2_3,g2_3⟩:=block_cell E1_3.out 2 _ rfl;obtain ⟨y3_3,g3_3⟩:=block_cell E1_3.out 3 _ rfl))
    refine bodyPost_ret (v:=.tuple #[.agg #[.slice (some ⟨b,off,none⟩) n c,.int .i64 room,.int .i64 0,.bool true],.int .i64 9]) (by simp [results,Tryz.results43,go_sem,y0_3,y1_3,y2_3,y3_3]) rfl ?_
    rw [HR.out]
    exact ⟨_,n,c,rfl,files_old hf hS (below_set4 (below_set4 hgw3 (by omega) _ _ _ _) (by omega) _ _ _ _),HN,HNC.out,HCM.out,below_set4 (below_set4 hgw3 (by omega) _ _ _ _) (by omega) _ _ _ _⟩
   ·have HZ:=Lib.hid hz
    clear hz
    obtain ⟨f2,HF2⟩:∃ f2,Hid ((if 0 < fuse then fuse - 1 else fuse)=f2):=⟨_,Lib.hid rfl⟩
    have HR:Hid (removeD ⟨fs,room,fuse,down⟩ nm=(⟨sans nm fs,room,f2,down⟩,0)):=Lib.hid (op_done hx.out (by unfold noE;rw [HL.out];simp) HZ.out HF2.out)
    go_enter Tryz.func43,Tryz.ntmps43
    go_wp2_with (first
     |((with_reducible refine (rfirst_is _ _ _ w.heap.size _ _ _ fs _ _ _ _ (by simp<;>omega) (HF.out _ (HW0.out _ _)) HN.out HC.out hr hfu HA.out HA.out hx.out).mono ?_);rintro e w1 ⟨rfl,hg1⟩;have hgw1:=(HW0.out _ _).trans (hg1.mono (by simp<;>omega));have hs1:w.heap.size+2≤w1.heap.size:=(by have:=hg1.size;simp at this;omega);have E0_1:=Lib.hid ((hg1.block w.heap.size (by simp<;>omega)).trans K0.out);have E1_1:=Lib.hid ((hg1.block (w.heap.size+1) (by simp<;>omega)).trans K1.out);obtain ⟨x0_1,f0_1⟩:=block_cell E0_1.out 0 _ rfl;obtain ⟨x1_1,f1_1⟩:=block_cell E0_1.out 1 _ rfl;obtain ⟨x2_1,f2_1⟩:=block_cell E0_1.out 2 _ rfl;obtain ⟨x3_1,f3_1⟩:=block_cell E0_1.out 3 _ rfl;obtain ⟨y0_1,g0_1⟩:=block_cell E1_1.out 0 _ rfl;obtain ⟨y1_1,g1_1⟩:=block_cell E1_1.out 1 _ rfl;obtain ⟨y2_1,g2_1⟩:=block_cell E1_1.out 2 _ rfl;obtain ⟨y3_1,g3_1⟩:=block_cell E1_1.out 3 _ rfl)
     |((with_reducible refine (rfind_is _ _ _ w.heap.size _ _ _ _ fs _ _ hgw1.size (HF.out _ hgw1) HN.out HC.out HG.out).mono ?_);rintro e w2 ⟨rfl,hg2⟩;have hgw2:=hgw1.trans (hg2.mono hgw1.size);have hs2:w.heap.size+2≤w2.heap.size:=(by have:=hg2.size;omega);have E0_2:=Lib.hid ((hg2.block w.heap.size (by omega)).trans E0_1.out);have E1_2:=Lib.hid ((hg2.block (w.heap.size+1) (by omega)).trans E1_1.out);obtain ⟨x0_2,f0_2⟩:=block_cell E0_2.out 0 _ rfl;obtain ⟨x1_2,f1_2⟩:=block_cell E0_2.out 1 _ rfl;obtain ⟨x2_2,f2_2⟩:=block_cell E0_2.out 2 _ rfl;obtain ⟨x3_2,f3_2⟩:=block_cell E0_2.out 3 _ rfl;obtain ⟨y0_2,g0_2⟩:=block_cell E1_2.out 0 _ rfl;obtain ⟨y1_2,g1_2⟩:=block_cell E1_2.out 1 _ rfl;obtain ⟨y2_2,g2_2⟩:=block_cell E1_2.out 2 _ rfl;obtain ⟨y3_2,g3_2⟩:=block_cell E1_2.out 3 _ rfl)
     |((with_reducible refine (rpower _ _ _ _ _ _ _ _ _ _ hfu (power_on HZ.out HF2.out)).mono ?_);rintro e w3 ⟨rfl,hg3⟩;have hgw3:=hgw2.trans (hg3.mono hgw2.size);have hs3:w.heap.size+2≤w3.heap.size:=(by have:=hg3.size;omega);have E0_3:=Lib.hid ((hg3.block w.heap.size (by omega)).trans E0_2.out);have E1_3:=Lib.hid ((hg3.block (w.heap.size+1) (by omega)).trans E1_2.out);obtain ⟨x0_3,f0_3⟩:=block_cell E0_3.out 0 _ rfl;obtain ⟨x1_3,f1_3⟩:=block_cell E0_3.out 1 _ rfl;obtain ⟨x2_3,f2_3⟩:=block_cell E0_3.out 2 _ rfl;obtain ⟨x3_3,f3_3⟩:=block_cell E0_3.out 3 _ rfl;obtain ⟨y0_3,g0_3⟩:=block_cell E1_3.out 0 _ rfl;obtain ⟨y1_3,g1_3⟩:=block_cell E1_3.out 1 _ rfl;obtain ⟨y2_3,g2_3⟩:=block_cell E1_3.out 2 _ rfl;obtain ⟨y3_3,g3_3⟩:=block_cell E1_3.out 3 _ rfl)
     |((with_reducible refine (rwithout _ _ _ _ _ _ _ fs S _ (fun b' h'=>by rw [size_set4];have:=hS b' h';omega) (HFI.out _ (below_set4 hgw3 (Nat.le_refl _) _ _ _ _)) HN.out hc).mono ?_);rintro e w4 ⟨A4,n4,c4,rfl,hr4,hl4,hm4,hc4,hg4⟩;have hgw4:=(below_set4 hgw3 (Nat.le_refl _) _ _ _ _).trans (hg4.mono (by rw [size_set4];exact hgw3.size));have hs4:w.heap.size+2≤w4.heap.size:=(by have:=hg4.size;rw [size_set4] at this;omega);have E1_4:=Lib.hid ((hg4.block (w.heap.size+1) (by rw [size_set4];omega)).trans ((heap_set4 _ _ _ _ (by omega)).trans E1_3.out));obtain ⟨y0_4,g0_4⟩:=block_cell E1_4.out 0 _ rfl;obtain ⟨y1_4,g1_4⟩:=block_cell E1_4.out 1 _ rfl;obtain ⟨y2_4,g2_4⟩:=block_cell E1_4.out 2 _ rfl;obtain ⟨y3_4,g3_4⟩:=block_cell E1_4.out 3 _ rfl))
    refine bodyPost_ret (v:=.tuple #[.agg #[.slice A4 n4 c4,.int .i64 room,.int .i64 f2,.bool down],.int .i64 0]) (by simp [results,Tryz.results43,go_sem,y0_4,y1_4,y2_4,y3_4]) rfl ?_
    rw [HR.out]
    exact ⟨A4,n4,c4,rfl,files_store hr4 hS (by omega) (by rw [size_set4];omega) _ _ _ _,hl4,hm4,hc4,below_set4 hgw4 (by omega) _ _ _ _⟩
 ·have HR:Hid (removeD ⟨fs,room,fuse,down⟩ nm=(⟨fs,room,fuse,down⟩,x)):=Lib.hid (op_first hx.out hx0)
  have hx1:(x != 0)=true:=by simpa using hx0
  clear hx0
  go_enter Tryz.func43,Tryz.ntmps43
  go_wp2_with ((with_reducible refine (rfirst_is _ _ _ w.heap.size _ _ _ fs _ _ _ _ (by simp<;>omega) (HF.out _ (HW0.out _ _)) HN.out HC.out hr hfu HA.out HA.out hx.out).mono ?_);rintro e w1 ⟨rfl,hg1⟩;have hgw1:=(HW0.out _ _).trans (hg1.mono (by simp<;>omega));have hs1:w.heap.size+2≤w1.heap.size:=(by have:=hg1.size;simp at this;omega);have E0_1:=Lib.hid ((hg1.block w.heap.size (by simp<;>omega)).trans K0.out);have E1_1:=Lib.hid ((hg1.block (w.heap.size+1) (by simp<;>omega)).trans K1.out);obtain ⟨x0_1,f0_1⟩:=block_cell E0_1.out 0 _ rfl;obtain ⟨x1_1,f1_1⟩:=block_cell E0_1.out 1 _ rfl;obtain ⟨x2_1,f2_1⟩:=block_cell E0_1.out 2 _ rfl;obtain ⟨x3_1,f3_1⟩:=block_cell E0_1.out 3 _ rfl;obtain ⟨y0_1,g0_1⟩:=block_cell E1_1.out 0 _ rfl;obtain ⟨y1_1,g1_1⟩:=block_cell E1_1.out 1 _ rfl;obtain ⟨y2_1,g2_1⟩:=block_cell E1_1.out 2 _ rfl;obtain ⟨y3_1,g3_1⟩:=block_cell E1_1.out 3 _ rfl)
  refine bodyPost_ret (v:=.tuple #[.agg #[.slice A n c,.int .i64 room,.int .i64 fuse,.bool down],.int .i64 x]) (by simp [results,Tryz.results43,go_sem,y0_1,y1_1,y2_1,y3_1]) rfl ?_
  rw [HR.out]
  exact ⟨A,n,c,rfl,files_old hf hS (below_set4 hgw1 (by omega) _ _ _ _),HN,HNC.out,HCM.out,below_set4 hgw1 (by omega) _ _ _ _⟩
theorem bys_take {w:World} {S:Nat→Prop} {A:Option Addr} {bs:List Nat} (h:BysIn w S A bs) (m:Nat):BysIn w S A (bs.take m):=by
 obtain ⟨h1,h2⟩:=h
 have e:toI (bs.take m)=(toI bs).take m:=by unfold toI;rw [List.map_take]
 refine ⟨fun x hx=>h1 x (by rw [e] at hx;exact List.mem_of_mem_take hx),fun hn=>?_⟩
 rw [e] at hn ⊢
 obtain ⟨b,off,e1,e2,e3⟩:=h2 (by rw [List.length_take] at hn;omega)
 refine ⟨b,off,e1,e2,fun j hj=>?_⟩
 rw [List.length_take] at hj
 rw [e3 j (by omega)]
 simp only [List.getD_eq_getElem?_getD]
 rw [List.getElem?_take,if_pos (by omega)]
set_option maxHeartbeats 6000000 in
theorem rcut (A:Option Addr) (n c:Nat) (room fuse:Int) (down:Bool) (nm:ByteArray) (nn:Int) (fs:List FileD) (S:Nat→Prop) (w:World) (hS:∀ b,S b→b < w.heap.size) (hf:FilesIn w S A fs) (hn:fs.length=n) (hc:n≤1000000) (hnc:n≤c) (hcm:c≤maxLen) (hr:inI room) (hfu:inI fuse) (ha:nm.size≤maxLen) (hnn:inI nn) :
  Calls Tryz.prog 57 #[.agg #[.slice A n c,.int .i64 room,.int .i64 fuse,.bool down],.string nm,.int .i64 nn] w (RetOp S w (cutD ⟨fs,room,fuse,down⟩ nm nn)):=by
 have HN:Hid (fs.length=n):=Lib.hid hn
 have HC:Hid (n≤maxLen):=Lib.hid (by unfold maxLen;omega)
 have HNC:=Lib.hid hnc
 have HCM:=Lib.hid hcm
 have HA:=Lib.hid ha
 have HF:Hid (∀ W,Below w.heap.size w W→Files W w.heap.size A fs):=Lib.hid (fun W h=>hf.files hS h)
 have HFI:Hid (∀ W,Below w.heap.size w W→FilesIn W S A fs):=Lib.hid (fun W h=>hf.below hS h)
 clear hn ha hnc hcm
 have hw0:∀ o1 o2:Obj,Below w.heap.size w ((w.alloc o1).alloc o2):=fun o1 o2=>((Below.refl _ _).alloc (Nat.le_refl _) o1).alloc (by simp) o2
 have HW0:=Lib.hid hw0
 clear hw0
 have K0:Hid (((w.alloc (.cells #[.slice A n c,.int .i64 room,.int .i64 fuse,.bool down] 27)).alloc (.cells #[.slice none 0 0,.int .i64 0,.int .i64 0,.bool false] 27)).heap[w.heap.size]?=some (.cells #[.slice A n c,.int .i64 room,.int .i64 fuse,.bool down] 27 (0,0))):=Lib.hid (by
  rw [Below.heap_alloc _ _ _ (by simp)];exact heap_alloc_new w _)
 have K1:Hid (((w.alloc (.cells #[.slice A n c,.int .i64 room,.int .i64 fuse,.bool down] 27)).alloc (.cells #[.slice none 0 0,.int .i64 0,.int .i64 0,.bool false] 27)).heap[w.heap.size+1]?=some (.cells #[.slice none 0 0,.int .i64 0,.int .i64 0,.bool false] 27 (0,0))):=Lib.hid (by
  simpa using heap_alloc_new (w.alloc (.cells #[.slice A n c,.int .i64 room,.int .i64 fuse,.bool down] 27)) (.cells #[.slice none 0 0,.int .i64 0,.int .i64 0,.bool false] 27))
 obtain ⟨x,hx⟩:∃ x,Hid (firstE ⟨fs,room,fuse,down⟩ nm nm=x):=⟨_,Lib.hid rfl⟩
 by_cases hx0:x=0
 ·subst hx0
  rcases findI_look nm fs with ⟨g1,g2⟩ | ⟨k,f,g1,g2,g3⟩
  ·have HG:=Lib.hid g1
   have HR:Hid (cutD ⟨fs,room,fuse,down⟩ nm nn=(⟨fs,room,fuse,down⟩,7)):=Lib.hid (op_pre hx.out (by unfold cutE;rw [if_pos g2]) (by simp))
   clear g1 g2
   go_enter Tryz.func57,Tryz.ntmps57
   go_wp2_with (first
    |((with_reducible refine (rfirst_is _ _ _ w.heap.size _ _ _ fs _ _ _ _ (by simp<;>omega) (HF.out _ (HW0.out _ _)) HN.out HC.out hr hfu HA.out HA.out hx.out).mono ?_);rintro e w1 ⟨rfl,hg1⟩;have hgw1:=(HW0.out _ _).trans (hg1.mono (by simp<;>omega));have hs1:w.heap.size+2≤w1.heap.size:=(by have:=hg1.size;simp at this;omega);have hl1:w.heap.size < w1.heap.size:=(by omega);have hm1:w.heap.size+1 < w1.heap.size:=(by omega);have E0_1:=Lib.hid ((hg1.block w.heap.size (by simp<;>omega)).trans K0.out);have E1_1:=Lib.hid ((hg1.block (w.heap.size+1) (by simp<;>omega)).trans K1.out);obtain ⟨x0_1,f0_1⟩:=block_cell E0_1.out 0 _ rfl;obtain ⟨x1_1,f1_1⟩:=block_cell E0_1.out 1 _ rfl;obtain ⟨x2_1,f2_1⟩:=block_cell E0_1.out 2 _ rfl;obtain ⟨x3_1,f3_1⟩:=block_cell E0_1.out 3 _ rfl;obtain ⟨y0_1,g0_1⟩:=block_cell E1_1.out 0 _ rfl;obtain ⟨y1_1,g1_1⟩:=block_cell E1_1.out 1 _ rfl;obtain ⟨y2_1,g2_1⟩:=block_cell E1_1.out 2 _ rfl;obtain ⟨y3_1,g3_1⟩:=block_cell E1_1.out 3 _ rfl)
    |((with_reducible refine (rfind_is _ _ _ w.heap.size _ _ _ _ fs _ _ hgw1.size (HF.out _ hgw1) HN.out HC.out HG.out).mono ?_);rintro e w2 ⟨rfl,hg2⟩;have hgw2:=hgw1.trans (hg2.mono hgw1.size);have hs2:w.heap.size+2≤w2.heap.size:=(by have:=hg2.size;omega);have hl2:w.heap.size < w2.heap.size:=(by omega);have hm2:w.heap.size+1 < w2.heap.size:=(by omega);have E0_2:=Lib.hid ((hg2.block w.heap.size (by omega)).trans E0_1.out);have E1_2:=Lib.hid ((hg2.block (w.heap.size+1) (by omega)).trans E1_1.out);obtain ⟨x0_2,f0_2⟩:=block_cell E0_2.out 0 _ rfl;obtain ⟨x1_2,f1_2⟩:=block_cell E0_2.out 1 _ rfl;obtain ⟨x2_2,f2_2⟩:=block_cell E0_2.out 2 _ rfl;obtain ⟨x3_2,f3_2⟩:=block_cell E0_2.out 3 _ rfl;obtain ⟨y0_2,g0_2⟩:=block_cell E1_2.out 0 _ rfl;obtain ⟨y1_2,g1_2⟩:=block_cell E1_2.out 1 _ rfl;obtain ⟨y2_2,g2_2⟩:=block_cell E1_2.out 2 _ rfl;obtain ⟨y3_2,g3_2⟩:=block_cell E1_2.out 3 _ rfl))
   refine bodyPost_ret (v:=.tuple #[.agg #[.slice A n c,.int .i64 room,.int .i64 fuse,.bool down],.int .i64 7]) (by simp [results,Tryz.results57,go_sem,y0_2,y1_2,y2_2,y3_2]) rfl ?_
   rw [HR.out]
   exact ⟨A,n,c,rfl,files_old hf hS (below_set4 hgw2 (by omega) _ _ _ _),HN,HNC.out,HCM.out,below_set4 hgw2 (by omega) _ _ _ _⟩
  ·have HG:=Lib.hid g1
   have hk:k < fs.length:=(List.getElem?_eq_some_iff.1 g2).1
   obtain ⟨b,off,f',A',n',c',rfl,hbS,HX,cell0,cell1,cell2,q1,q2,q3,q4,q5,q6⟩:=hf.at_ hk
   have hbw:=hS b hbS
   obtain rfl:f=f':=by have:=HX.out;rw [g2] at this;injection this
   rw [HN.out] at hk
   have HL:Hid (look nm fs=some f):=Lib.hid g3
   have HOLD:Hid (oldOf nm fs=f):=Lib.hid (by unfold oldOf;rw [g3];rfl)
   clear g1 g2 g3 hbS
   have HSU:=Lib.hid q6
   clear q6
   rcases (show nn < 0∨(0≤nn∧(n' : Int) < nn)∨(0≤nn∧nn≤(n' : Int)) by omega) with z1 | ⟨z1,z2⟩ | ⟨z1,z2⟩
   ·have HR:Hid (cutD ⟨fs,room,fuse,down⟩ nm nn=(⟨fs,room,fuse,down⟩,1)):=Lib.hid (op_pre hx.out (by unfold cutE;rw [HL.out,HOLD.out,q3.out];simp;omega) (by simp))
    go_enter Tryz.func57,Tryz.ntmps57
    go_wp2_with (first
     |((with_reducible refine (rfirst_is _ _ _ w.heap.size _ _ _ fs _ _ _ _ (by simp<;>omega) (HF.out _ (HW0.out _ _)) HN.out HC.out hr hfu HA.out HA.out hx.out).mono ?_);rintro e w1 ⟨rfl,hg1⟩;have hgw1:=(HW0.out _ _).trans (hg1.mono (by simp<;>omega));have hs1:w.heap.size+2≤w1.heap.size:=(by have:=hg1.size;simp at this;omega);have hl1:w.heap.size < w1.heap.size:=(by omega);have hm1:w.heap.size+1 < w1.heap.size:=(by omega);have E0_1:=Lib.hid ((hg1.block w.heap.size (by simp<;>omega)).trans K0.out);have E1_1:=Lib.hid ((hg1.block (w.heap.size+1) (by simp<;>omega)).trans K1.out);obtain ⟨x0_1,f0_1⟩:=block_cell E0_1.out 0 _ rfl;obtain ⟨x1_1,f1_1⟩:=block_cell E0_1.out 1 _ rfl;obtain ⟨x2_1,f2_1⟩:=block_cell E0_1.out 2 _ rfl;obtain ⟨x3_1,f3_1⟩:=block_cell E0_1.out 3 _ rfl;obtain ⟨y0_1,g0_1⟩:=block_cell E1_1.out 0 _ rfl;obtain ⟨y1_1,g1_1⟩:=block_cell E1_1.out 1 _ rfl;obtain ⟨y2_1,g2_1⟩:=block_cell E1_1.out 2 _ rfl;obtain ⟨y3_1,g3_1⟩:=block_cell E1_1.out 3 _ rfl)
     |((with_reducible refine (rfind_is _ _ _ w.heap.size _ _ _ _ fs _ _ hgw1.size (HF.out _ hgw1) HN.out HC.out HG.out).mono ?_);rintro e w2 ⟨rfl,hg2⟩;have hgw2:=hgw1.trans (hg2.mono hgw1.size);have hs2:w.heap.size+2≤w2.heap.size:=(by have:=hg2.size;omega);have hl2:w.heap.size < w2.heap.size:=(by omega);have hm2:w.heap.size+1 < w2.heap.size:=(by omega);have E0_2:=Lib.hid ((hg2.block w.heap.size (by omega)).trans E0_1.out);have E1_2:=Lib.hid ((hg2.block (w.heap.size+1) (by omega)).trans E1_1.out);obtain ⟨x0_2,f0_2⟩:=block_cell E0_2.out 0 _ rfl;obtain ⟨x1_2,f1_2⟩:=block_cell E0_2.out 1 _ rfl;obtain ⟨x2_2,f2_2⟩:=block_cell E0_2.out 2 _ rfl;obtain ⟨x3_2,f3_2⟩:=block_cell E0_2.out 3 _ rfl;obtain ⟨y0_2,g0_2⟩:=block_cell E1_2.out 0 _ rfl;obtain ⟨y1_2,g1_2⟩:=block_cell E1_2.out 1 _ rfl;obtain ⟨y2_2,g2_2⟩:=block_cell E1_2.out 2 _ rfl;obtain ⟨y3_2,g3_2⟩:=block_cell E1_2.out 3 _ rfl;have c0_2:=(hgw2.cell (p:=⟨b,off+k * 3,none⟩) hbw).trans cell0;have c1_2:=(hgw2.cell (p:=⟨b,off+k * 3+1,none⟩) hbw).trans cell1;have c2_2:=(hgw2.cell (p:=⟨b,off+k * 3+2,none⟩) hbw).trans cell2;have hb_2:b < w2.heap.size:=(by omega)))
    refine bodyPost_ret (v:=.tuple #[.agg #[.slice (some ⟨b,off,none⟩) n c,.int .i64 room,.int .i64 fuse,.bool down],.int .i64 1]) (by simp [results,Tryz.results57,go_sem,y0_2,y1_2,y2_2,y3_2,hm2]) rfl ?_
    rw [HR.out]
    exact ⟨_,n,c,rfl,files_old hf hS ((below_set4 hgw2 (by omega) _ _ _ _).alloc (by rw [size_set4];exact hgw2.size) _),HN,HNC.out,HCM.out,(below_set4 hgw2 (by omega) _ _ _ _).alloc (by rw [size_set4];exact hgw2.size) _⟩
   ·have HR:Hid (cutD ⟨fs,room,fuse,down⟩ nm nn=(⟨fs,room,fuse,down⟩,1)):=Lib.hid (op_pre hx.out (by unfold cutE;rw [HL.out,HOLD.out,q3.out];simp;omega) (by simp))
    go_enter Tryz.func57,Tryz.ntmps57
    go_wp2_with (first
     |((with_reducible refine (rfirst_is _ _ _ w.heap.size _ _ _ fs _ _ _ _ (by simp<;>omega) (HF.out _ (HW0.out _ _)) HN.out HC.out hr hfu HA.out HA.out hx.out).mono ?_);rintro e w1 ⟨rfl,hg1⟩;have hgw1:=(HW0.out _ _).trans (hg1.mono (by simp<;>omega));have hs1:w.heap.size+2≤w1.heap.size:=(by have:=hg1.size;simp at this;omega);have hl1:w.heap.size < w1.heap.size:=(by omega);have hm1:w.heap.size+1 < w1.heap.size:=(by omega);have E0_1:=Lib.hid ((hg1.block w.heap.size (by simp<;>omega)).trans K0.out);have E1_1:=Lib.hid ((hg1.block (w.heap.size+1) (by simp<;>omega)).trans K1.out);obtain ⟨x0_1,f0_1⟩:=block_cell E0_1.out 0 _ rfl;obtain ⟨x1_1,f1_1⟩:=block_cell E0_1.out 1 _ rfl;obtain ⟨x2_1,f2_1⟩:=block_cell E0_1.out 2 _ rfl;obtain ⟨x3_1,f3_1⟩:=block_cell E0_1.out 3 _ rfl;obtain ⟨y0_1,g0_1⟩:=block_cell E1_1.out 0 _ rfl;obtain ⟨y1_1,g1_1⟩:=block_cell E1_1.out 1 _ rfl;obtain ⟨y2_1,g2_1⟩:=block_cell E1_1.out 2 _ rfl;obtain ⟨y3_1,g3_1⟩:=block_cell E1_1.out 3 _ rfl)
     |((with_reducible refine (rfind_is _ _ _ w.heap.size _ _ _ _ fs _ _ hgw1.size (HF.out _ hgw1) HN.out HC.out HG.out).mono ?_);rintro e w2 ⟨rfl,hg2⟩;have hgw2:=hgw1.trans (hg2.mono hgw1.size);have hs2:w.heap.size+2≤w2.heap.size:=(by have:=hg2.size;omega);have hl2:w.heap.size < w2.heap.size:=(by omega);have hm2:w.heap.size+1 < w2.heap.size:=(by omega);have E0_2:=Lib.hid ((hg2.block w.heap.size (by omega)).trans E0_1.out);have E1_2:=Lib.hid ((hg2.block (w.heap.size+1) (by omega)).trans E1_1.out);obtain ⟨x0_2,f0_2⟩:=block_cell E0_2.out 0 _ rfl;obtain ⟨x1_2,f1_2⟩:=block_cell E0_2.out 1 _ rfl;obtain ⟨x2_2,f2_2⟩:=block_cell E0_2.out 2 _ rfl;obtain ⟨x3_2,f3_2⟩:=block_cell E0_2.out 3 _ rfl;obtain ⟨y0_2,g0_2⟩:=block_cell E1_2.out 0 _ rfl;obtain ⟨y1_2,g1_2⟩:=block_cell E1_2.out 1 _ rfl;obtain ⟨y2_2,g2_2⟩:=block_cell E1_2.out 2 _ rfl;obtain ⟨y3_2,g3_2⟩:=block_cell E1_2.out 3 _ rfl;have c0_2:=(hgw2.cell (p:=⟨b,off+k * 3,none⟩) hbw).trans cell0;have c1_2:=(hgw2.cell (p:=⟨b,off+k * 3+1,none⟩) hbw).trans cell1;have c2_2:=(hgw2.cell (p:=⟨b,off+k * 3+2,none⟩) hbw).trans cell2;have hb_2:b < w2.heap.size:=(by omega)))
    refine bodyPost_ret (v:=.tuple #[.agg #[.slice (some ⟨b,off,none⟩) n c,.int .i64 room,.int .i64 fuse,.bool down],.int .i64 1]) (by simp [results,Tryz.results57,go_sem,y0_2,y1_2,y2_2,y3_2,hm2]) rfl ?_
    rw [HR.out]
    exact ⟨_,n,c,rfl,files_old hf hS ((below_set4 hgw2 (by omega) _ _ _ _).alloc (by rw [size_set4];exact hgw2.size) _),HN,HNC.out,HCM.out,(below_set4 hgw2 (by omega) _ _ _ _).alloc (by rw [size_set4];exact hgw2.size) _⟩
   ·obtain ⟨m,rfl⟩:∃ m:Nat,nn=(m:Int):=⟨nn.toNat,by omega⟩
    have hmn:m≤n':=by omega
    clear z1 z2
    by_cases hz:fuse=0
    ·have HZ:=Lib.hid hz
     clear hz
     have HR:Hid (cutD ⟨fs,room,fuse,down⟩ nm m=(⟨fs,room,0,true⟩,9)):=Lib.hid (op_down hx.out (by unfold cutE;rw [HL.out,HOLD.out,q3.out];simp;omega) HZ.out)
     go_enter Tryz.func57,Tryz.ntmps57
     go_wp2_with (first
      |((with_reducible refine (rfirst_is _ _ _ w.heap.size _ _ _ fs _ _ _ _ (by simp<;>omega) (HF.out _ (HW0.out _ _)) HN.out HC.out hr hfu HA.out HA.out hx.out).mono ?_);rintro e w1 ⟨rfl,hg1⟩;have hgw1:=(HW0.out _ _).trans (hg1.mono (by simp<;>omega));have hs1:w.heap.size+2≤w1.heap.size:=(by have:=hg1.size;simp at this;omega);have hl1:w.heap.size < w1.heap.size:=(by omega);have hm1:w.heap.size+1 < w1.heap.size:=(by omega);have E0_1:=Lib.hid ((hg1.block w.heap.size (by simp<;>omega)).trans K0.out);have E1_1:=Lib.hid ((hg1.block (w.heap.size+1) (by simp<;>omega)).trans K1.out);obtain ⟨x0_1,f0_1⟩:=block_cell E0_1.out 0 _ rfl;obtain ⟨x1_1,f1_1⟩:=block_cell E0_1.out 1 _ rfl;obtain ⟨x2_1,f2_1⟩:=block_cell E0_1.out 2 _ rfl;obtain ⟨x3_1,f3_1⟩:=block_cell E0_1.out 3 _ rfl;obtain ⟨y0_1,g0_1⟩:=block_cell E1_1.out 0 _ rfl;obtain ⟨y1_1,g1_1⟩:=block_cell E1_1.out 1 _ rfl;obtain ⟨y2_1,g2_1⟩:=block_cell E1_1.out 2 _ rfl;obtain ⟨y3_1,g3_1⟩:=block_cell E1_1.out 3 _ rfl)
      |((with_reducible refine (rfind_is _ _ _ w.heap.size _ _ _ _ fs _ _ hgw1.size (HF.out _ hgw1) HN.out HC.out HG.out).mono ?_);rintro e w2 ⟨rfl,hg2⟩;have hgw2:=hgw1.trans (hg2.mono hgw1.size);have hs2:w.heap.size+2≤w2.heap.size:=(by have:=hg2.size;omega);have hl2:w.heap.size < w2.heap.size:=(by omega);have hm2:w.heap.size+1 < w2.heap.size:=(by omega);have E0_2:=Lib.hid ((hg2.block w.heap.size (by omega)).trans E0_1.out);have E1_2:=Lib.hid ((hg2.block (w.heap.size+1) (by omega)).trans E1_1.out);obtain ⟨x0_2,f0_2⟩:=block_cell E0_2.out 0 _ rfl;obtain ⟨x1_2,f1_2⟩:=block_cell E0_2.out 1 _ rfl;obtain ⟨x2_2,f2_2⟩:=block_cell E0_2.out 2 _ rfl;obtain ⟨x3_2,f3_2⟩:=block_cell E0_2.out 3 _ rfl;obtain ⟨y0_2,g0_2⟩:=block_cell E1_2.out 0 _ rfl;obtain ⟨y1_2,g1_2⟩:=block_cell E1_2.out 1 _ rfl;obtain ⟨y2_2,g2_2⟩:=block_cell E1_2.out 2 _ rfl;obtain ⟨y3_2,g3_2⟩:=block_cell E1_2.out 3 _ rfl;have c0_2:=(hgw2.cell (p:=⟨b,off+k * 3,none⟩) hbw).trans cell0;have c1_2:=(hgw2.cell (p:=⟨b,off+k * 3+1,none⟩) hbw).trans cell1;have c2_2:=(hgw2.cell (p:=⟨b,off+k * 3+2,none⟩) hbw).trans cell2;have hb_2:b < w2.heap.size:=(by omega))
      |((with_reducible refine (rpower _ _ _ _ _ _ _ _ _ _ hfu (power_off HZ.out)).mono ?_);rintro e w3 ⟨rfl,hg3⟩;have hgw3:=(hgw2.alloc hgw2.size _).trans (hg3.mono (by simp<;>omega));have hn3:w2.heap.size < w3.heap.size:=(by have:=hg3.size;simp at this;omega);have hl3:w.heap.size < w3.heap.size:=(by omega);have hm3:w.heap.size+1 < w3.heap.size:=(by omega);have E0_3:=Lib.hid ((hg3.block w.heap.size (by simp<;>omega)).trans ((Below.heap_alloc _ _ _ hl2).trans E0_2.out));have E1_3:=Lib.hid ((hg3.block (w.heap.size+1) (by simp<;>omega)).trans ((Below.heap_alloc _ _ _ hm2).trans E1_2.out));have EF_3:=Lib.hid ((hg3.block w2.heap.size (by simp)).trans (heap_alloc_new w2 _));obtain ⟨x0_3,f0_3⟩:=block_cell E0_3.out 0 _ rfl;obtain ⟨x1_3,f1_3⟩:=block_cell E0_3.out 1 _ rfl;obtain ⟨x2_3,f2_3⟩:=block_cell E0_3.out 2 _ rfl;obtain ⟨x3_3,f3_3⟩:=block_cell E0_3.out 3 _ rfl;obtain ⟨y0_3,g0_3⟩:=block_cell E1_3.out 0 _ rfl;obtain ⟨y1_3,g1_3⟩:=block_cell E1_3.out 1 _ rfl;obtain ⟨y2_3,g2_3⟩:=block_cell E1_3.out 2 _ rfl;obtain ⟨y3_3,g3_3⟩:=block_cell E1_3.out 3 _ rfl;obtain ⟨p0,p1⟩:=block_cell EF_3.out 0 _ rfl;obtain ⟨p2,p3⟩:=block_cell EF_3.out 1 _ rfl;obtain ⟨p4,p5⟩:=block_cell EF_3.out 2 _ rfl))
     refine bodyPost_ret (v:=.tuple #[.agg #[.slice (some ⟨b,off,none⟩) n c,.int .i64 room,.int .i64 0,.bool true],.int .i64 9]) (by simp [results,Tryz.results57,go_sem,y0_3,y1_3,y2_3,y3_3]) rfl ?_
     rw [HR.out]
     exact ⟨_,n,c,rfl,files_old hf hS (below_set4 (below_set4 hgw3 (by omega) _ _ _ _) (by omega) _ _ _ _),HN,HNC.out,HCM.out,below_set4 (below_set4 hgw3 (by omega) _ _ _ _) (by omega) _ _ _ _⟩
    ·have HZ:=Lib.hid hz
     clear hz
     obtain ⟨f2,HF2⟩:∃ f2,Hid ((if 0 < fuse then fuse - 1 else fuse)=f2):=⟨_,Lib.hid rfl⟩
     have HT:Hid ((f.data.take m).length=m):=Lib.hid (by rw [List.length_take,q3.out];omega)
     have q2t:BysIn w S A' (f.data.take m):=bys_take q2 m
     rcases Int.lt_or_le m f.sure with hsu | hsu
     ·have HR:Hid (cutD ⟨fs,room,fuse,down⟩ nm m=(⟨withF { f with data:=f.data.take m,sure:=(m:Nat) } fs,room,f2,down⟩,0)):=Lib.hid ((op_done hx.out (by unfold cutE;rw [HL.out,HOLD.out,q3.out];simp;omega) HZ.out HF2.out).trans (by unfold cutF;rw [HOLD.out,if_pos hsu];rfl))
      go_enter Tryz.func57,Tryz.ntmps57
      go_wp2_with (first
       |((with_reducible refine (rfirst_is _ _ _ w.heap.size _ _ _ fs _ _ _ _ (by simp<;>omega) (HF.out _ (HW0.out _ _)) HN.out HC.out hr hfu HA.out HA.out hx.out).mono ?_);rintro e w1 ⟨rfl,hg1⟩;have hgw1:=(HW0.out _ _).trans (hg1.mono (by simp<;>omega));have hs1:w.heap.size+2≤w1.heap.size:=(by have:=hg1.size;simp at this;omega);have hl1:w.heap.size < w1.heap.size:=(by omega);have hm1:w.heap.size+1 < w1.heap.size:=(by omega);have E0_1:=Lib.hid ((hg1.block w.heap.size (by simp<;>omega)).trans K0.out);have E1_1:=Lib.hid ((hg1.block (w.heap.size+1) (by simp<;>omega)).trans K1.out);obtain ⟨x0_1,f0_1⟩:=block_cell E0_1.out 0 _ rfl;obtain ⟨x1_1,f1_1⟩:=block_cell E0_1.out 1 _ rfl;obtain ⟨x2_1,f2_1⟩:=block_cell E0_1.out 2 _ rfl;obtain ⟨x3_1,f3_1⟩:=block_cell E0_1.out 3 _ rfl;obtain ⟨y0_1,g0_1⟩:=block_cell E1_1.out 0 _ rfl;obtain ⟨y1_1,g1_1⟩:=block_cell E1_1.out 1 _ rfl;obtain ⟨y2_1,g2_1⟩:=block_cell E1_1.out 2 _ rfl;obtain ⟨y3_1,g3_1⟩:=block_cell E1_1.out 3 _ rfl)
       |((with_reducible refine (rfind_is _ _ _ w.heap.size _ _ _ _ fs _ _ hgw1.size (HF.out _ hgw1) HN.out HC.out HG.out).mono ?_);rintro e w2 ⟨rfl,hg2⟩;have hgw2:=hgw1.trans (hg2.mono hgw1.size);have hs2:w.heap.size+2≤w2.heap.size:=(by have:=hg2.size;omega);have hl2:w.heap.size < w2.heap.size:=(by omega);have hm2:w.heap.size+1 < w2.heap.size:=(by omega);have E0_2:=Lib.hid ((hg2.block w.heap.size (by omega)).trans E0_1.out);have E1_2:=Lib.hid ((hg2.block (w.heap.size+1) (by omega)).trans E1_1.out);obtain ⟨x0_2,f0_2⟩:=block_cell E0_2.out 0 _ rfl;obtain ⟨x1_2,f1_2⟩:=block_cell E0_2.out 1 _ rfl;obtain ⟨x2_2,f2_2⟩:=block_cell E0_2.out 2 _ rfl;obtain ⟨x3_2,f3_2⟩:=block_cell E0_2.out 3 _ rfl;obtain ⟨y0_2,g0_2⟩:=block_cell E1_2.out 0 _ rfl;obtain ⟨y1_2,g1_2⟩:=block_cell E1_2.out 1 _ rfl;obtain ⟨y2_2,g2_2⟩:=block_cell E1_2.out 2 _ rfl;obtain ⟨y3_2,g3_2⟩:=block_cell E1_2.out 3 _ rfl;have c0_2:=(hgw2.cell (p:=⟨b,off+k * 3,none⟩) hbw).trans cell0;have c1_2:=(hgw2.cell (p:=⟨b,off+k * 3+1,none⟩) hbw).trans cell1;have c2_2:=(hgw2.cell (p:=⟨b,off+k * 3+2,none⟩) hbw).trans cell2;have hb_2:b < w2.heap.size:=(by omega))
       |((with_reducible refine (rpower _ _ _ _ _ _ _ _ _ _ hfu (power_on HZ.out HF2.out)).mono ?_);rintro e w3 ⟨rfl,hg3⟩;have hgw3:=(hgw2.alloc hgw2.size _).trans (hg3.mono (by simp<;>omega));have hn3:w2.heap.size < w3.heap.size:=(by have:=hg3.size;simp at this;omega);have hl3:w.heap.size < w3.heap.size:=(by omega);have hm3:w.heap.size+1 < w3.heap.size:=(by omega);have E0_3:=Lib.hid ((hg3.block w.heap.size (by simp<;>omega)).trans ((Below.heap_alloc _ _ _ hl2).trans E0_2.out));have E1_3:=Lib.hid ((hg3.block (w.heap.size+1) (by simp<;>omega)).trans ((Below.heap_alloc _ _ _ hm2).trans E1_2.out));have EF_3:=Lib.hid ((hg3.block w2.heap.size (by simp)).trans (heap_alloc_new w2 _));obtain ⟨x0_3,f0_3⟩:=block_cell E0_3.out 0 _ rfl;obtain ⟨x1_3,f1_3⟩:=block_cell E0_3.out 1 _ rfl;obtain ⟨x2_3,f2_3⟩:=block_cell E0_3.out 2 _ rfl;obtain ⟨x3_3,f3_3⟩:=block_cell E0_3.out 3 _ rfl;obtain ⟨y0_3,g0_3⟩:=block_cell E1_3.out 0 _ rfl;obtain ⟨y1_3,g1_3⟩:=block_cell E1_3.out 1 _ rfl;obtain ⟨y2_3,g2_3⟩:=block_cell E1_3.out 2 _ rfl;obtain ⟨y3_3,g3_3⟩:=block_cell E1_3.out 3 _ rfl;obtain ⟨p0,p1⟩:=block_cell EF_3.out 0 _ rfl;obtain ⟨p2,p3⟩:=block_cell EF_3.out 1 _ rfl;obtain ⟨p4,p5⟩:=block_cell EF_3.out 2 _ rfl)
       |((with_reducible refine (rwith _ _ _ _ _ _ _ _ _ fs { f with data:=f.data.take m,sure:=(m:Nat) } S _ (fun b' h'=>by have:=hS b' h';simp [World.setCell]<;>omega) (HFI.out _ (((below_set4 hgw3 (Nat.le_refl _) _ _ _ _).setCell (p:=⟨w2.heap.size,1,none⟩) hgw2.size _).setCell (p:=⟨w2.heap.size,2,none⟩) hgw2.size _)) HN.out hc q1 (q2t.below hS (((below_set4 hgw3 (Nat.le_refl _) _ _ _ _).setCell (p:=⟨w2.heap.size,1,none⟩) hgw2.size _).setCell (p:=⟨w2.heap.size,2,none⟩) hgw2.size _)) HT.out (by omega) q5 (by unfold maxLen at q5;show inI (m:Int);unfold inI;omega)).mono ?_);rintro e w4 ⟨A4,n4,c4,rfl,hr4,hl4,hm4,hc4,hg4⟩;have hgw4:=(((below_set4 hgw3 (Nat.le_refl _) _ _ _ _).setCell (p:=⟨w2.heap.size,1,none⟩) hgw2.size _).setCell (p:=⟨w2.heap.size,2,none⟩) hgw2.size _).trans (hg4.mono (by simp [World.setCell]<;>omega));have hs4:w.heap.size+2≤w4.heap.size:=(by have:=hg4.size;simp [World.setCell] at this;omega);have E1_4:=Lib.hid ((hg4.block (w.heap.size+1) (by simp [World.setCell]<;>omega)).trans ((Below.heap_setCell _ _ _ _ (by show w.heap.size+1≠w2.heap.size;omega)).trans ((Below.heap_setCell _ _ _ _ (by show w.heap.size+1≠w2.heap.size;omega)).trans ((heap_set4 _ _ _ _ (by omega)).trans E1_3.out))));obtain ⟨y0_4,g0_4⟩:=block_cell E1_4.out 0 _ rfl;obtain ⟨y1_4,g1_4⟩:=block_cell E1_4.out 1 _ rfl;obtain ⟨y2_4,g2_4⟩:=block_cell E1_4.out 2 _ rfl;obtain ⟨y3_4,g3_4⟩:=block_cell E1_4.out 3 _ rfl))
      refine bodyPost_ret (v:=.tuple #[.agg #[.slice A4 n4 c4,.int .i64 room,.int .i64 f2,.bool down],.int .i64 0]) (by simp [results,Tryz.results57,go_sem,y0_4,y1_4,y2_4,y3_4]) rfl ?_
      rw [HR.out]
      exact ⟨A4,n4,c4,rfl,files_store hr4 hS (by omega) (by simp [World.setCell]<;>omega) _ _ _ _,hl4,hm4,hc4,below_set4 hgw4 (by omega) _ _ _ _⟩
     ·have HR:Hid (cutD ⟨fs,room,fuse,down⟩ nm m=(⟨withF { f with data:=f.data.take m,sure:=f.sure } fs,room,f2,down⟩,0)):=Lib.hid ((op_done hx.out (by unfold cutE;rw [HL.out,HOLD.out,q3.out];simp;omega) HZ.out HF2.out).trans (by unfold cutF;rw [HOLD.out,if_neg (by omega)];rfl))
      go_enter Tryz.func57,Tryz.ntmps57
      go_wp2_with (first
       |((with_reducible refine (rfirst_is _ _ _ w.heap.size _ _ _ fs _ _ _ _ (by simp<;>omega) (HF.out _ (HW0.out _ _)) HN.out HC.out hr hfu HA.out HA.out hx.out).mono ?_);rintro e w1 ⟨rfl,hg1⟩;have hgw1:=(HW0.out _ _).trans (hg1.mono (by simp<;>omega));have hs1:w.heap.size+2≤w1.heap.size:=(by have:=hg1.size;simp at this;omega);have hl1:w.heap.size < w1.heap.size:=(by omega);have hm1:w.heap.size+1 < w1.heap.size:=(by omega);have E0_1:=Lib.hid ((hg1.block w.heap.size (by simp<;>omega)).trans K0.out);have E1_1:=Lib.hid ((hg1.block (w.heap.size+1) (by simp<;>omega)).trans K1.out);obtain ⟨x0_1,f0_1⟩:=block_cell E0_1.out 0 _ rfl;obtain ⟨x1_1,f1_1⟩:=block_cell E0_1.out 1 _ rfl;obtain ⟨x2_1,f2_1⟩:=block_cell E0_1.out 2 _ rfl;obtain ⟨x3_1,f3_1⟩:=block_cell E0_1.out 3 _ rfl;obtain ⟨y0_1,g0_1⟩:=block_cell E1_1.out 0 _ rfl;obtain ⟨y1_1,g1_1⟩:=block_cell E1_1.out 1 _ rfl;obtain ⟨y2_1,g2_1⟩:=block_cell E1_1.out 2 _ rfl;obtain ⟨y3_1,g3_1⟩:=block_cell E1_1.out 3 _ rfl)
       |((with_reducible refine (rfind_is _ _ _ w.heap.size _ _ _ _ fs _ _ hgw1.size (HF.out _ hgw1) HN.out HC.out HG.out).mono ?_);rintro e w2 ⟨rfl,hg2⟩;have hgw2:=hgw1.trans (hg2.mono hgw1.size);have hs2:w.heap.size+2≤w2.heap.size:=(by have:=hg2.size;omega);have hl2:w.heap.size < w2.heap.size:=(by omega);have hm2:w.heap.size+1 < w2.heap.size:=(by omega);have E0_2:=Lib.hid ((hg2.block w.heap.size (by omega)).trans E0_1.out);have E1_2:=Lib.hid ((hg2.block (w.heap.size+1) (by omega)).trans E1_1.out);obtain ⟨x0_2,f0_2⟩:=block_cell E0_2.out 0 _ rfl;obtain ⟨x1_2,f1_2⟩:=block_cell E0_2.out 1 _ rfl;obtain ⟨x2_2,f2_2⟩:=block_cell E0_2.out 2 _ rfl;obtain ⟨x3_2,f3_2⟩:=block_cell E0_2.out 3 _ rfl;obtain ⟨y0_2,g0_2⟩:=block_cell E1_2.out 0 _ rfl;obtain ⟨y1_2,g1_2⟩:=block_cell E1_2.out 1 _ rfl;obtain ⟨y2_2,g2_2⟩:=block_cell E1_2.out 2 _ rfl;obtain ⟨y3_2,g3_2⟩:=block_cell E1_2.out 3 _ rfl;have c0_2:=(hgw2.cell (p:=⟨b,off+k * 3,none⟩) hbw).trans cell0;have c1_2:=(hgw2.cell (p:=⟨b,off+k * 3+1,none⟩) hbw).trans cell1;have c2_2:=(hgw2.cell (p:=⟨b,off+k * 3+2,none⟩) hbw).trans cell2;have hb_2:b < w2.heap.size:=(by omega))
       |((with_reducible refine (rpower _ _ _ _ _ _ _ _ _ _ hfu (power_on HZ.out HF2.out)).mono ?_);rintro e w3 ⟨rfl,hg3⟩;have hgw3:=(hgw2.alloc hgw2.size _).trans (hg3.mono (by simp<;>omega));have hn3:w2.heap.size < w3.heap.size:=(by have:=hg3.size;simp at this;omega);have hl3:w.heap.size < w3.heap.size:=(by omega);have hm3:w.heap.size+1 < w3.heap.size:=(by omega);have E0_3:=Lib.hid ((hg3.block w.heap.size (by simp<;>omega)).trans ((Below.heap_alloc _ _ _ hl2).trans E0_2.out));have E1_3:=Lib.hid ((hg3.block (w.heap.size+1) (by simp<;>omega)).trans ((Below.heap_alloc _ _ _ hm2).trans E1_2.out));have EF_3:=Lib.hid ((hg3.block w2.heap.size (by simp)).trans (heap_alloc_new w2 _));obtain ⟨x0_3,f0_3⟩:=block_cell E0_3.out 0 _ rfl;obtain ⟨x1_3,f1_3⟩:=block_cell E0_3.out 1 _ rfl;obtain ⟨x2_3,f2_3⟩:=block_cell E0_3.out 2 _ rfl;obtain ⟨x3_3,f3_3⟩:=block_cell E0_3.out 3 _ rfl;obtain ⟨y0_3,g0_3⟩:=block_cell E1_3.out 0 _ rfl;obtain ⟨y1_3,g1_3⟩:=block_cell E1_3.out 1 _ rfl;obtain ⟨y2_3,g2_3⟩:=block_cell E1_3.out 2 _ rfl;obtain ⟨y3_3,g3_3⟩:=block_cell E1_3.out 3 _ rfl;obtain ⟨p0,p1⟩:=block_cell EF_3.out 0 _ rfl;obtain ⟨p2,p3⟩:=block_cell EF_3.out 1 _ rfl;obtain ⟨p4,p5⟩:=block_cell EF_3.out 2 _ rfl)
       |((with_reducible refine (rwith _ _ _ _ _ _ _ _ _ fs { f with data:=f.data.take m,sure:=f.sure } S _ (fun b' h'=>by have:=hS b' h';simp [World.setCell]<;>omega) (HFI.out _ ((below_set4 hgw3 (Nat.le_refl _) _ _ _ _).setCell (p:=⟨w2.heap.size,1,none⟩) hgw2.size _)) HN.out hc q1 (q2t.below hS ((below_set4 hgw3 (Nat.le_refl _) _ _ _ _).setCell (p:=⟨w2.heap.size,1,none⟩) hgw2.size _)) HT.out (by omega) q5 HSU.out).mono ?_);rintro e w4 ⟨A4,n4,c4,rfl,hr4,hl4,hm4,hc4,hg4⟩;have hgw4:=((below_set4 hgw3 (Nat.le_refl _) _ _ _ _).setCell (p:=⟨w2.heap.size,1,none⟩) hgw2.size _).trans (hg4.mono (by simp [World.setCell]<;>omega));have hs4:w.heap.size+2≤w4.heap.size:=(by have:=hg4.size;simp [World.setCell] at this;omega);have E1_4:=Lib.hid ((hg4.block (w.heap.size+1) (by simp [World.setCell]<;>omega)).trans ((Below.heap_setCell _ _ _ _ (by show w.heap.size+1≠w2.heap.size;omega)).trans ((heap_set4 _ _ _ _ (by omega)).trans E1_3.out)));obtain ⟨y0_4,g0_4⟩:=block_cell E1_4.out 0 _ rfl;obtain ⟨y1_4,g1_4⟩:=block_cell E1_4.out 1 _ rfl;obtain ⟨y2_4,g2_4⟩:=block_cell E1_4.out 2 _ rfl;obtain ⟨y3_4,g3_4⟩:=block_cell E1_4.out 3 _ rfl))
      refine bodyPost_ret (v:=.tuple #[.agg #[.slice A4 n4 c4,.int .i64 room,.int .i64 f2,.bool down],.int .i64 0]) (by simp [results,Tryz.results57,go_sem,y0_4,y1_4,y2_4,y3_4]) rfl ?_
      rw [HR.out]
      exact ⟨A4,n4,c4,rfl,files_store hr4 hS (by omega) (by simp [World.setCell]<;>omega) _ _ _ _,hl4,hm4,hc4,below_set4 hgw4 (by omega) _ _ _ _⟩
 ·have HR:Hid (cutD ⟨fs,room,fuse,down⟩ nm nn=(⟨fs,room,fuse,down⟩,x)):=Lib.hid (op_first hx.out hx0)
  have hx1:(x != 0)=true:=by simpa using hx0
  clear hx0
  go_enter Tryz.func57,Tryz.ntmps57
  go_wp2_with ((with_reducible refine (rfirst_is _ _ _ w.heap.size _ _ _ fs _ _ _ _ (by simp<;>omega) (HF.out _ (HW0.out _ _)) HN.out HC.out hr hfu HA.out HA.out hx.out).mono ?_);rintro e w1 ⟨rfl,hg1⟩;have hgw1:=(HW0.out _ _).trans (hg1.mono (by simp<;>omega));have hs1:w.heap.size+2≤w1.heap.size:=(by have:=hg1.size;simp at this;omega);have hl1:w.heap.size < w1.heap.size:=(by omega);have hm1:w.heap.size+1 < w1.heap.size:=(by omega);have E0_1:=Lib.hid ((hg1.block w.heap.size (by simp<;>omega)).trans K0.out);have E1_1:=Lib.hid ((hg1.block (w.heap.size+1) (by simp<;>omega)).trans K1.out);obtain ⟨x0_1,f0_1⟩:=block_cell E0_1.out 0 _ rfl;obtain ⟨x1_1,f1_1⟩:=block_cell E0_1.out 1 _ rfl;obtain ⟨x2_1,f2_1⟩:=block_cell E0_1.out 2 _ rfl;obtain ⟨x3_1,f3_1⟩:=block_cell E0_1.out 3 _ rfl;obtain ⟨y0_1,g0_1⟩:=block_cell E1_1.out 0 _ rfl;obtain ⟨y1_1,g1_1⟩:=block_cell E1_1.out 1 _ rfl;obtain ⟨y2_1,g2_1⟩:=block_cell E1_1.out 2 _ rfl;obtain ⟨y3_1,g3_1⟩:=block_cell E1_1.out 3 _ rfl)
  refine bodyPost_ret (v:=.tuple #[.agg #[.slice A n c,.int .i64 room,.int .i64 fuse,.bool down],.int .i64 x]) (by simp [results,Tryz.results57,go_sem,y0_1,y1_1,y2_1,y3_1]) rfl ?_
  rw [HR.out]
  exact ⟨A,n,c,rfl,files_old hf hS (below_set4 hgw1 (by omega) _ _ _ _),HN,HNC.out,HCM.out,below_set4 hgw1 (by omega) _ _ _ _⟩
end Go.Proofs.YtepfmpmphcndjaaGreatDoor.disk
