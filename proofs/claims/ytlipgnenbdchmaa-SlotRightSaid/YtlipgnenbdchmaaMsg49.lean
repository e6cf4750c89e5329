/-
  DiskRef12a
-/
import Derived.Test.YtlipgnenbdchmaaMsg27
import Derived.Deep.RegionWith
import Derived.Deep.CutRange
import Derived.IntWalk
set_option linter.unusedVariables false
set_option linter.unusedSimpArgs false
namespace Go.Proofs.Ytlipgnenbdchmaa.disk
set_option maxRecDepth 20000
open Go.RowKit
attribute [local go_sem] undef
set_option maxHeartbeats 20000000 in
theorem rappend_none (A:Option Addr) (n c:Nat) (room fuse:Int) (down:Bool) (nm:ByteArray) (Ab:Option Addr) (nb cb:Nat) (bs:List Nat) (fs:List FileD) (S:Nat→Prop) (w:World) (hS:∀ b,S b→b < w.heap.size) (hf:FilesIn w S A fs) (hn:fs.length=n) (hc:n≤1000000) (hnc:n≤c) (hcm:c≤maxLen) (hr:inI room) (hfu:inI fuse) (ha:nm.size≤maxLen) (hbs:BysIn w S Ab bs) (hbn:bs.length=nb) (hbm:nb≤100000) (hu:used fs≤100000) (hlen:∀ f ∈ fs,f.data.length≤100000) (hx0:firstE ⟨fs,room,fuse,down⟩ nm nm=0) (g1:findI fs nm = -1) (g2:look nm fs=none) :
  Calls Try.prog 37 #[.agg #[.slice A n c,.int .i64 room,.int .i64 fuse,.bool down],.string nm,.slice Ab nb cb] w (RetOp S w (appendD ⟨fs,room,fuse,down⟩ nm bs)):=by
 have HN:Hid (fs.length=n):=Lib.hid hn
 have HC:Hid (n≤maxLen):=Lib.hid (by unfold maxLen;omega)
 have HNC:=Lib.hid hnc
 have HCM:=Lib.hid hcm
 have HA:=Lib.hid ha
 have HF:Hid (∀ W,Below w.heap.size w W→Files W w.heap.size A fs):=Lib.hid (fun W h=>hf.files hS h)
 have HFI:Hid (∀ W,Below w.heap.size w W→FilesIn W S A fs):=Lib.hid (fun W h=>hf.below hS h)
 clear hn ha hnc hcm
 have hw0:∀ o1 o2:Obj,Below w.heap.size w ((w.alloc o1).alloc o2):=fun o1 o2=>((Below.refl _ _).alloc (Nat.le_refl _) o1).alloc (by simp) o2
 have HW0:=Lib.hid hw0
 clear hw0
 have K0:Hid (((w.alloc (.cells #[.slice A n c,.int .i64 room,.int .i64 fuse,.bool down] 24)).alloc (.cells #[.slice none 0 0,.int .i64 0,.int .i64 0,.bool false] 24)).heap[w.heap.size]?=some (.cells #[.slice A n c,.int .i64 room,.int .i64 fuse,.bool down] 24 (0,0))):=Lib.hid (by
  rw [Below.heap_alloc _ _ _ (by simp)];exact heap_alloc_new w _)
 have K1:Hid (((w.alloc (.cells #[.slice A n c,.int .i64 room,.int .i64 fuse,.bool down] 24)).alloc (.cells #[.slice none 0 0,.int .i64 0,.int .i64 0,.bool false] 24)).heap[w.heap.size+1]?=some (.cells #[.slice none 0 0,.int .i64 0,.int .i64 0,.bool false] 24 (0,0))):=Lib.hid (by
  simpa using heap_alloc_new (w.alloc (.cells #[.slice A n c,.int .i64 room,.int .i64 fuse,.bool down] 24)) (.cells #[.slice none 0 0,.int .i64 0,.int .i64 0,.bool false] 24))
 have HBN:Hid (bs.length=nb):=Lib.hid hbn
 obtain ⟨u,HU1⟩:∃ u,Hid (used fs=u):=⟨_,Lib.hid rfl⟩
 have hu2:u≤100000:=by rw [← HU1.out];exact hu
 have HU:Hid (∀ W,Below w.heap.size w W→Calls Try.prog 58 #[.agg #[.slice A n c,.int .i64 room,.int .i64 fuse,.bool down]] W fun e w'=>e = .returned (.int .i64 (u:Nat))∧Below W.heap.size W w'):=Lib.hid (fun W h =>
  rused_is A n c w.heap.size room fuse down fs u W h.size (HF.out W h) HN.out HC.out HU1.out (by omega))
 have HBB:Hid (∀ W,Below w.heap.size w W→Bys W w.heap.size Ab bs):=Lib.hid (fun W h=>ints_in.2 ((hbs.below hS h).keep (alike_refl _ _) hS))
 have hinfo:Hid ((Try.prog.info? 5).map (fun i=>(i.zero,i.size,i.bytes))=some (some (.int .u8 0),1,1)):=Lib.hid (by kernel_rfl)
 clear hbn hu
 have hwrap:IntKind.i64.wrap ((u:Int)+(nb:Int))=(u:Int)+(nb:Int):=IntWalk.i64_in _ (by omega)
 have hx:=Lib.hid hx0
 clear hx0
 have HG:=Lib.hid g1
 have HL:Hid (look nm fs=none):=Lib.hid g2
 have HOLD:Hid (oldOf nm fs=⟨nm,[],0⟩):=Lib.hid (by unfold oldOf;rw [g2];rfl)
 clear g1 g2
 rcases (show room < (u:Int)+(nb:Int)∨((u:Int)+(nb:Int)≤room∧64≤(n:Int))∨((u:Int)+(nb:Int)≤room∧(n:Int) < 64) by omega) with z1 | ⟨z1,z2⟩ | ⟨z1,z2⟩
 ·have HR:Hid (appendD ⟨fs,room,fuse,down⟩ nm bs=(⟨fs,room,fuse,down⟩,6)):=Lib.hid (op_pre hx.out (by unfold appE;rw [HL.out,HU1.out,HBN.out,HN.out];simp;omega) (by simp))
  go_enter Try.func37,Try.ntmps37
  go_wp2_with (first
   |((with_reducible refine (rfirst_is _ _ _ w.heap.size _ _ _ fs _ _ _ _ (by simp<;>omega) (HF.out _ (HW0.out _ _)) HN.out HC.out hr hfu HA.out HA.out hx.out).mono ?_);rintro e w1 ⟨rfl,hg1⟩;have hgw1:=(HW0.out _ _).trans (hg1.mono (by simp<;>omega));have hs1:w.heap.size+2≤w1.heap.size:=(by have:=hg1.size;simp at this;omega);have hl1:w.heap.size < w1.heap.size:=(by omega);have hm1:w.heap.size+1 < w1.heap.size:=(by omega);have E0_1:=Lib.hid ((hg1.block w.heap.size (by simp<;>omega)).trans K0.out);have E1_1:=Lib.hid ((hg1.block (w.heap.size+1) (by simp<;>omega)).trans K1.out);obtain ⟨x0_1,f0_1⟩:=block_cell E0_1.out 0 _ rfl;obtain ⟨x1_1,f1_1⟩:=block_cell E0_1.out 1 _ rfl;obtain ⟨x2_1,f2_1⟩:=block_cell E0_1.out 2 _ rfl;obtain ⟨x3_1,f3_1⟩:=block_cell E0_1.out 3 _ rfl;obtain ⟨y0_1,g0_1⟩:=block_cell E1_1.out 0 _ rfl;obtain ⟨y1_1,g1_1⟩:=block_cell E1_1.out 1 _ rfl;obtain ⟨y2_1,g2_1⟩:=block_cell E1_1.out 2 _ rfl;obtain ⟨y3_1,g3_1⟩:=block_cell E1_1.out 3 _ rfl)
   |((with_reducible refine (rfind_is _ _ _ w.heap.size _ _ _ _ fs _ _ (by simp<;>omega) (HF.out _ (hgw1.alloc hgw1.size _)) HN.out HC.out HG.out).mono ?_);rintro e w2 ⟨rfl,hg2⟩;have hgw2:=(hgw1.alloc hgw1.size _).trans (hg2.mono (by simp<;>omega));have hn2:w1.heap.size < w2.heap.size:=(by have:=hg2.size;simp at this;omega);have hl2:w.heap.size < w2.heap.size:=(by omega);have hm2:w.heap.size+1 < w2.heap.size:=(by omega);have E0_2:=Lib.hid ((hg2.block w.heap.size (by simp<;>omega)).trans ((Below.heap_alloc _ _ _ hl1).trans E0_1.out));have E1_2:=Lib.hid ((hg2.block (w.heap.size+1) (by simp<;>omega)).trans ((Below.heap_alloc _ _ _ hm1).trans E1_1.out));have EF_2:=Lib.hid ((hg2.block w1.heap.size (by simp)).trans (heap_alloc_new w1 _));obtain ⟨x0_2,f0_2⟩:=block_cell E0_2.out 0 _ rfl;obtain ⟨x1_2,f1_2⟩:=block_cell E0_2.out 1 _ rfl;obtain ⟨x2_2,f2_2⟩:=block_cell E0_2.out 2 _ rfl;obtain ⟨x3_2,f3_2⟩:=block_cell E0_2.out 3 _ rfl;obtain ⟨p0_2,r0_2⟩:=block_cell EF_2.out 0 _ rfl;obtain ⟨p1_2,r1_2⟩:=block_cell EF_2.out 1 _ rfl;obtain ⟨p2_2,r2_2⟩:=block_cell EF_2.out 2 _ rfl))
  go_cut [49] from 32 to 48 (fun v wx=>v = .bool true∧Kept w w1 wx #[.slice A n c,.int .i64 room,.int .i64 fuse,.bool down] (.string nm) (.slice none 0 0) (.int .i64 0))
  case first =>
   first
    |go_region_with (go_at_call 58;refine Calls.mono (HU.out _ (hgw2).drew) ?_;rintro e w3 ⟨rfl,hg3⟩;have hgw3:=(hgw2).drew.trans (hg3.mono (by have:=hgw2.size;simp [World.setCell]<;>omega));have hn3:w1.heap.size < w3.heap.size:=(by have:=hg3.size;simp [World.setCell] at this;omega);have hl3:w.heap.size < w3.heap.size:=(by omega);have hm3:w.heap.size+1 < w3.heap.size:=(by omega);have E0_3:=Lib.hid (by have h:=hg3.block w.heap.size (by simp<;>omega);rw [heap_drew,E0_2.out] at h;exact h);have E1_3:=Lib.hid (by have h:=hg3.block (w.heap.size+1) (by simp<;>omega);rw [heap_drew,E1_2.out] at h;exact h);have EF_3:=Lib.hid (by have h:=hg3.block w1.heap.size (by simp<;>omega);rw [heap_drew,EF_2.out] at h;exact h);obtain ⟨x0_3,f0_3⟩:=block_cell E0_3.out 0 _ rfl;obtain ⟨x1_3,f1_3⟩:=block_cell E0_3.out 1 _ rfl;obtain ⟨x2_3,f2_3⟩:=block_cell E0_3.out 2 _ rfl;obtain ⟨x3_3,f3_3⟩:=block_cell E0_3.out 3 _ rfl)
    |fail
   all_goals (go_wp2_with fail;go_meet;exact ⟨by first | rfl | (simp;omega),hgw3,hn3,E0_3.out,E1_3.out,EF_3.out⟩)
  case rest =>
   obtain ⟨rfl,hgw3,hn3,e0,e1,eF⟩:=hcut
   have hl3:w.heap.size < wc.heap.size:=by omega
   have hm3:w.heap.size+1 < wc.heap.size:=by omega
   have E0_3:=Lib.hid e0
   have E1_3:=Lib.hid e1
   have EF_3:=Lib.hid eF
   clear e0 e1 eF hwrap
   obtain ⟨x0_3,f0_3⟩:=block_cell E0_3.out 0 _ rfl;obtain ⟨x1_3,f1_3⟩:=block_cell E0_3.out 1 _ rfl;obtain ⟨x2_3,f2_3⟩:=block_cell E0_3.out 2 _ rfl;obtain ⟨x3_3,f3_3⟩:=block_cell E0_3.out 3 _ rfl;obtain ⟨y0_3,g0_3⟩:=block_cell E1_3.out 0 _ rfl;obtain ⟨y1_3,g1_3⟩:=block_cell E1_3.out 1 _ rfl;obtain ⟨y2_3,g2_3⟩:=block_cell E1_3.out 2 _ rfl;obtain ⟨y3_3,g3_3⟩:=block_cell E1_3.out 3 _ rfl;obtain ⟨p0_3,r0_3⟩:=block_cell EF_3.out 0 _ rfl;obtain ⟨p1_3,r1_3⟩:=block_cell EF_3.out 1 _ rfl;obtain ⟨p2_3,r2_3⟩:=block_cell EF_3.out 2 _ rfl
   go_wp2
   refine bodyPost_ret (v:=.tuple #[.agg #[.slice A n c,.int .i64 room,.int .i64 fuse,.bool down],.int .i64 6]) (by simp [results,Try.results37,go_sem,y0_3,y1_3,y2_3,y3_3]) rfl ?_
   rw [HR.out]
   exact ⟨_,n,c,rfl,files_old hf hS (below_set4 hgw3 (by omega) _ _ _ _),HN,HNC.out,HCM.out,below_set4 hgw3 (by omega) _ _ _ _⟩
 ·have HR:Hid (appendD ⟨fs,room,fuse,down⟩ nm bs=(⟨fs,room,fuse,down⟩,6)):=Lib.hid (op_pre hx.out (by unfold appE;rw [HL.out,HU1.out,HBN.out,HN.out];simp;omega) (by simp))
  go_enter Try.func37,Try.ntmps37
  go_wp2_with (first
   |((with_reducible refine (rfirst_is _ _ _ w.heap.size _ _ _ fs _ _ _ _ (by simp<;>omega) (HF.out _ (HW0.out _ _)) HN.out HC.out hr hfu HA.out HA.out hx.out).mono ?_);rintro e w1 ⟨rfl,hg1⟩;have hgw1:=(HW0.out _ _).trans (hg1.mono (by simp<;>omega));have hs1:w.heap.size+2≤w1.heap.size:=(by have:=hg1.size;simp at this;omega);have hl1:w.heap.size < w1.heap.size:=(by omega);have hm1:w.heap.size+1 < w1.heap.size:=(by omega);have E0_1:=Lib.hid ((hg1.block w.heap.size (by simp<;>omega)).trans K0.out);have E1_1:=Lib.hid ((hg1.block (w.heap.size+1) (by simp<;>omega)).trans K1.out);obtain ⟨x0_1,f0_1⟩:=block_cell E0_1.out 0 _ rfl;obtain ⟨x1_1,f1_1⟩:=block_cell E0_1.out 1 _ rfl;obtain ⟨x2_1,f2_1⟩:=block_cell E0_1.out 2 _ rfl;obtain ⟨x3_1,f3_1⟩:=block_cell E0_1.out 3 _ rfl;obtain ⟨y0_1,g0_1⟩:=block_cell E1_1.out 0 _ rfl;obtain ⟨y1_1,g1_1⟩:=block_cell E1_1.out 1 _ rfl;obtain ⟨y2_1,g2_1⟩:=block_cell E1_1.out 2 _ rfl;obtain ⟨y3_1,g3_1⟩:=block_cell E1_1.out 3 _ rfl)
   |((with_reducible refine (rfind_is _ _ _ w.heap.size _ _ _ _ fs _ _ (by simp<;>omega) (HF.out _ (hgw1.alloc hgw1.size _)) HN.out HC.out HG.out).mono ?_);rintro e w2 ⟨rfl,hg2⟩;have hgw2:=(hgw1.alloc hgw1.size _).trans (hg2.mono (by simp<;>omega));have hn2:w1.heap.size < w2.heap.size:=(by have:=hg2.size;simp at this;omega);have hl2:w.heap.size < w2.heap.size:=(by omega);have hm2:w.heap.size+1 < w2.heap.size:=(by omega);have E0_2:=Lib.hid ((hg2.block w.heap.size (by simp<;>omega)).trans ((Below.heap_alloc _ _ _ hl1).trans E0_1.out));have E1_2:=Lib.hid ((hg2.block (w.heap.size+1) (by simp<;>omega)).trans ((Below.heap_alloc _ _ _ hm1).trans E1_1.out));have EF_2:=Lib.hid ((hg2.block w1.heap.size (by simp)).trans (heap_alloc_new w1 _));obtain ⟨x0_2,f0_2⟩:=block_cell E0_2.out 0 _ rfl;obtain ⟨x1_2,f1_2⟩:=block_cell E0_2.out 1 _ rfl;obtain ⟨x2_2,f2_2⟩:=block_cell E0_2.out 2 _ rfl;obtain ⟨x3_2,f3_2⟩:=block_cell E0_2.out 3 _ rfl;obtain ⟨p0_2,r0_2⟩:=block_cell EF_2.out 0 _ rfl;obtain ⟨p1_2,r1_2⟩:=block_cell EF_2.out 1 _ rfl;obtain ⟨p2_2,r2_2⟩:=block_cell EF_2.out 2 _ rfl))
  go_cut [49] from 32 to 48 (fun v wx=>v = .bool true∧Kept w w1 wx #[.slice A n c,.int .i64 room,.int .i64 fuse,.bool down] (.string nm) (.slice none 0 0) (.int .i64 0))
  case first =>
   first
    |go_region_with (go_at_call 58;refine Calls.mono (HU.out _ (hgw2).drew) ?_;rintro e w3 ⟨rfl,hg3⟩;have hgw3:=(hgw2).drew.trans (hg3.mono (by have:=hgw2.size;simp [World.setCell]<;>omega));have hn3:w1.heap.size < w3.heap.size:=(by have:=hg3.size;simp [World.setCell] at this;omega);have hl3:w.heap.size < w3.heap.size:=(by omega);have hm3:w.heap.size+1 < w3.heap.size:=(by omega);have E0_3:=Lib.hid (by have h:=hg3.block w.heap.size (by simp<;>omega);rw [heap_drew,E0_2.out] at h;exact h);have E1_3:=Lib.hid (by have h:=hg3.block (w.heap.size+1) (by simp<;>omega);rw [heap_drew,E1_2.out] at h;exact h);have EF_3:=Lib.hid (by have h:=hg3.block w1.heap.size (by simp<;>omega);rw [heap_drew,EF_2.out] at h;exact h);obtain ⟨x0_3,f0_3⟩:=block_cell E0_3.out 0 _ rfl;obtain ⟨x1_3,f1_3⟩:=block_cell E0_3.out 1 _ rfl;obtain ⟨x2_3,f2_3⟩:=block_cell E0_3.out 2 _ rfl;obtain ⟨x3_3,f3_3⟩:=block_cell E0_3.out 3 _ rfl)
    |fail
   all_goals (go_wp2_with fail;go_meet;exact ⟨by first | rfl | (simp;omega),hgw3,hn3,E0_3.out,E1_3.out,EF_3.out⟩)
  case rest =>
   obtain ⟨rfl,hgw3,hn3,e0,e1,eF⟩:=hcut
   have hl3:w.heap.size < wc.heap.size:=by omega
   have hm3:w.heap.size+1 < wc.heap.size:=by omega
   have E0_3:=Lib.hid e0
   have E1_3:=Lib.hid e1
   have EF_3:=Lib.hid eF
   clear e0 e1 eF hwrap
   obtain ⟨x0_3,f0_3⟩:=block_cell E0_3.out 0 _ rfl;obtain ⟨x1_3,f1_3⟩:=block_cell E0_3.out 1 _ rfl;obtain ⟨x2_3,f2_3⟩:=block_cell E0_3.out 2 _ rfl;obtain ⟨x3_3,f3_3⟩:=block_cell E0_3.out 3 _ rfl;obtain ⟨y0_3,g0_3⟩:=block_cell E1_3.out 0 _ rfl;obtain ⟨y1_3,g1_3⟩:=block_cell E1_3.out 1 _ rfl;obtain ⟨y2_3,g2_3⟩:=block_cell E1_3.out 2 _ rfl;obtain ⟨y3_3,g3_3⟩:=block_cell E1_3.out 3 _ rfl;obtain ⟨p0_3,r0_3⟩:=block_cell EF_3.out 0 _ rfl;obtain ⟨p1_3,r1_3⟩:=block_cell EF_3.out 1 _ rfl;obtain ⟨p2_3,r2_3⟩:=block_cell EF_3.out 2 _ rfl
   go_wp2
   refine bodyPost_ret (v:=.tuple #[.agg #[.slice A n c,.int .i64 room,.int .i64 fuse,.bool down],.int .i64 6]) (by simp [results,Try.results37,go_sem,y0_3,y1_3,y2_3,y3_3]) rfl ?_
   rw [HR.out]
   exact ⟨_,n,c,rfl,files_old hf hS (below_set4 hgw3 (by omega) _ _ _ _),HN,HNC.out,HCM.out,below_set4 hgw3 (by omega) _ _ _ _⟩
 ·have HQ:Hid (∀ W,Below w.heap.size w W→Bys W w.heap.size none ([]:List Nat)):=Lib.hid (fun W _=>Ints.nil _ _ _ _)
  have HQL:Hid (([]:List Nat).length=0):=Lib.hid rfl
  have HFL:Hid (bs.length=nb):=HBN
  by_cases hz:fuse=0
  ·have HZ:=Lib.hid hz
   clear hz
   have HR:Hid (appendD ⟨fs,room,fuse,down⟩ nm bs=(⟨withF ⟨nm,bs,0⟩ fs,room,0,true⟩,9)):=Lib.hid ((op_down hx.out (by unfold appE;rw [HL.out,HU1.out,HBN.out,HN.out];simp;omega) HZ.out).trans (by unfold appF;rw [HOLD.out];rfl))
   go_enter Try.func37,Try.ntmps37
   go_wp2_with (first
    |((with_reducible refine (rfirst_is _ _ _ w.heap.size _ _ _ fs _ _ _ _ (by simp<;>omega) (HF.out _ (HW0.out _ _)) HN.out HC.out hr hfu HA.out HA.out hx.out).mono ?_);rintro e w1 ⟨rfl,hg1⟩;have hgw1:=(HW0.out _ _).trans (hg1.mono (by simp<;>omega));have hs1:w.heap.size+2≤w1.heap.size:=(by have:=hg1.size;simp at this;omega);have hl1:w.heap.size < w1.heap.size:=(by omega);have hm1:w.heap.size+1 < w1.heap.size:=(by omega);have E0_1:=Lib.hid ((hg1.block w.heap.size (by simp<;>omega)).trans K0.out);have E1_1:=Lib.hid ((hg1.block (w.heap.size+1) (by simp<;>omega)).trans K1.out);obtain ⟨x0_1,f0_1⟩:=block_cell E0_1.out 0 _ rfl;obtain ⟨x1_1,f1_1⟩:=block_cell E0_1.out 1 _ rfl;obtain ⟨x2_1,f2_1⟩:=block_cell E0_1.out 2 _ rfl;obtain ⟨x3_1,f3_1⟩:=block_cell E0_1.out 3 _ rfl;obtain ⟨y0_1,g0_1⟩:=block_cell E1_1.out 0 _ rfl;obtain ⟨y1_1,g1_1⟩:=block_cell E1_1.out 1 _ rfl;obtain ⟨y2_1,g2_1⟩:=block_cell E1_1.out 2 _ rfl;obtain ⟨y3_1,g3_1⟩:=block_cell E1_1.out 3 _ rfl)
    |((with_reducible refine (rfind_is _ _ _ w.heap.size _ _ _ _ fs _ _ (by simp<;>omega) (HF.out _ (hgw1.alloc hgw1.size _)) HN.out HC.out HG.out).mono ?_);rintro e w2 ⟨rfl,hg2⟩;have hgw2:=(hgw1.alloc hgw1.size _).trans (hg2.mono (by simp<;>omega));have hn2:w1.heap.size < w2.heap.size:=(by have:=hg2.size;simp at this;omega);have hl2:w.heap.size < w2.heap.size:=(by omega);have hm2:w.heap.size+1 < w2.heap.size:=(by omega);have E0_2:=Lib.hid ((hg2.block w.heap.size (by simp<;>omega)).trans ((Below.heap_alloc _ _ _ hl1).trans E0_1.out));have E1_2:=Lib.hid ((hg2.block (w.heap.size+1) (by simp<;>omega)).trans ((Below.heap_alloc _ _ _ hm1).trans E1_1.out));have EF_2:=Lib.hid ((hg2.block w1.heap.size (by simp)).trans (heap_alloc_new w1 _));obtain ⟨x0_2,f0_2⟩:=block_cell E0_2.out 0 _ rfl;obtain ⟨x1_2,f1_2⟩:=block_cell E0_2.out 1 _ rfl;obtain ⟨x2_2,f2_2⟩:=block_cell E0_2.out 2 _ rfl;obtain ⟨x3_2,f3_2⟩:=block_cell E0_2.out 3 _ rfl;obtain ⟨p0_2,r0_2⟩:=block_cell EF_2.out 0 _ rfl;obtain ⟨p1_2,r1_2⟩:=block_cell EF_2.out 1 _ rfl;obtain ⟨p2_2,r2_2⟩:=block_cell EF_2.out 2 _ rfl))
   go_cut [49] from 32 to 48 (fun v wx=>v = .bool false∧Kept w w1 wx #[.slice A n c,.int .i64 room,.int .i64 fuse,.bool down] (.string nm) (.slice none 0 0) (.int .i64 0))
   case first =>
    first
     |go_region_with (go_at_call 58;refine Calls.mono (HU.out _ (hgw2).drew) ?_;rintro e w3 ⟨rfl,hg3⟩;have hgw3:=(hgw2).drew.trans (hg3.mono (by have:=hgw2.size;simp [World.setCell]<;>omega));have hn3:w1.heap.size < w3.heap.size:=(by have:=hg3.size;simp [World.setCell] at this;omega);have hl3:w.heap.size < w3.heap.size:=(by omega);have hm3:w.heap.size+1 < w3.heap.size:=(by omega);have E0_3:=Lib.hid (by have h:=hg3.block w.heap.size (by simp<;>omega);rw [heap_drew,E0_2.out] at h;exact h);have E1_3:=Lib.hid (by have h:=hg3.block (w.heap.size+1) (by simp<;>omega);rw [heap_drew,E1_2.out] at h;exact h);have EF_3:=Lib.hid (by have h:=hg3.block w1.heap.size (by simp<;>omega);rw [heap_drew,EF_2.out] at h;exact h);obtain ⟨x0_3,f0_3⟩:=block_cell E0_3.out 0 _ rfl;obtain ⟨x1_3,f1_3⟩:=block_cell E0_3.out 1 _ rfl;obtain ⟨x2_3,f2_3⟩:=block_cell E0_3.out 2 _ rfl;obtain ⟨x3_3,f3_3⟩:=block_cell E0_3.out 3 _ rfl)
     |fail
    all_goals (go_wp2_with fail;go_meet;exact ⟨by first | rfl | (simp;omega),hgw3,hn3,E0_3.out,E1_3.out,EF_3.out⟩)
   case rest =>
    obtain ⟨rfl,hgw3,hn3,e0,e1,eF⟩:=hcut
    have hl3:w.heap.size < wc.heap.size:=by omega
    have hm3:w.heap.size+1 < wc.heap.size:=by omega
    have E0_3:=Lib.hid e0
    have E1_3:=Lib.hid e1
    have EF_3:=Lib.hid eF
    clear e0 e1 eF hwrap
    obtain ⟨x0_3,f0_3⟩:=block_cell E0_3.out 0 _ rfl;obtain ⟨x1_3,f1_3⟩:=block_cell E0_3.out 1 _ rfl;obtain ⟨x2_3,f2_3⟩:=block_cell E0_3.out 2 _ rfl;obtain ⟨x3_3,f3_3⟩:=block_cell E0_3.out 3 _ rfl;obtain ⟨y0_3,g0_3⟩:=block_cell E1_3.out 0 _ rfl;obtain ⟨y1_3,g1_3⟩:=block_cell E1_3.out 1 _ rfl;obtain ⟨y2_3,g2_3⟩:=block_cell E1_3.out 2 _ rfl;obtain ⟨y3_3,g3_3⟩:=block_cell E1_3.out 3 _ rfl;obtain ⟨p0_3,r0_3⟩:=block_cell EF_3.out 0 _ rfl;obtain ⟨p1_3,r1_3⟩:=block_cell EF_3.out 1 _ rfl;obtain ⟨p2_3,r2_3⟩:=block_cell EF_3.out 2 _ rfl
    have HWI:Hid (∀ (w6:World) (A6:Option Addr) (c6:Nat),OwnBys w6 wc.heap.size 5 A6 nb c6 bs→Below wc.heap.size wc w6 →
      Calls Try.prog 57 #[.agg #[.slice A n c,.int .i64 room,.int .i64 fuse,.bool down],.agg #[.string nm,.slice A6 nb c6,.int .i64 0]] (w6.setCell ⟨w1.heap.size,1,none⟩ (.slice A6 nb c6)) (RetDisk (Out S wc w6) (w6.setCell ⟨w1.heap.size,1,none⟩ (.slice A6 nb c6)) ⟨withF ⟨nm,bs,0⟩ fs,room,fuse,down⟩)):=Lib.hid (fun w6 A6 c6 h1 h2 =>
     with_grown HFI.out hS hgw3 hgw1.size hn3 HN.out hc h1 h2 (by exact HA.out) HFL.out (by unfold inI;omega))
    go_wp2_with (first
     |(at_builtin;refine wpList_append_bys rfl (.tmp 51) (.tmp 53) _ rfl wc.heap.size 5 Try.underlying27 hinfo.out rfl (OwnBys.new (Nat.le_refl _) [] rfl (by simp) rfl (by unfold maxLen;omega)) rfl (HQ.out _ (hgw3.alloc hgw3.size _)) HQL.out (by omega) (by simp) ?_;intro A5 c5 w5 hown5 hgr5 hat5;have hb5:Below wc.heap.size wc w5:=((Below.refl _ _).alloc (Nat.le_refl _) _).grown hgr5 (by simp) (by intro g hgg;simp [Value.ownBlock] at hgg;omega);clear hgr5 hat5;simp only [Nat.zero_add,List.nil_append] at hown5)
     |(at_builtin;refine wpList_append_bys rfl (.tmp 54) (.tmp 55) _ rfl wc.heap.size 5 Try.underlying27 hinfo.out rfl hown5 rfl (HBB.out _ (hgw3.trans (hb5.mono hgw3.size))) HBN.out (by omega) hb5.size ?_;intro A6 c6 w6 hown6 hgr6 hat6;have hb6:Below wc.heap.size wc w6:=hb5.grown hgr6 hb5.size (fun g hgg=>(hown5.block g hgg).1);clear hgr6 hat6;try simp only [Nat.zero_add,List.nil_append] at hown6;have hs6:=hb6.size;have hl6:w.heap.size < w6.heap.size:=(by omega);have hm6:w.heap.size+1 < w6.heap.size:=(by omega);have hn6:w1.heap.size < w6.heap.size:=(by omega);have E0_6:=Lib.hid ((hb6.block w.heap.size hl3).trans E0_3.out);have E1_6:=Lib.hid ((hb6.block (w.heap.size+1) hm3).trans E1_3.out);have EF_6:=Lib.hid ((hb6.block w1.heap.size hn3).trans EF_3.out);obtain ⟨x0_6,f0_6⟩:=block_cell E0_6.out 0 _ rfl;obtain ⟨x1_6,f1_6⟩:=block_cell E0_6.out 1 _ rfl;obtain ⟨x2_6,f2_6⟩:=block_cell E0_6.out 2 _ rfl;obtain ⟨x3_6,f3_6⟩:=block_cell E0_6.out 3 _ rfl;obtain ⟨p0_6,r0_6⟩:=block_cell EF_6.out 0 _ rfl;obtain ⟨p1_6,r1_6⟩:=block_cell EF_6.out 1 _ rfl;obtain ⟨p2_6,r2_6⟩:=block_cell EF_6.out 2 _ rfl)
     |(refine Calls.mono (HWI.out _ _ _ hown6 hb6) ?_;rintro e w8 ⟨A8,n8,c8,rfl,hr8,hl8,hm8,hc8,hg8⟩;have hs8:w6.heap.size≤w8.heap.size:=(by have:=hg8.size;simp [World.setCell] at this;exact this);have hgw8:Below w.heap.size w w8:=((hgw3.trans (hb6.mono hgw3.size)).setCell (p:=⟨w1.heap.size,1,none⟩) hgw1.size _).trans (hg8.mono (by simp [World.setCell]<;>omega));have hl9:w.heap.size < w8.heap.size:=(by omega);have hm9:w.heap.size+1 < w8.heap.size:=(by omega);have E0_8:=Lib.hid (by have h:=hg8.block w.heap.size (by simp [World.setCell]<;>omega);rw [Below.heap_setCell _ _ _ _ (by show w.heap.size≠w1.heap.size;omega),E0_6.out] at h;exact h);have E1_8:=Lib.hid (by have h:=hg8.block (w.heap.size+1) (by simp [World.setCell]<;>omega);rw [Below.heap_setCell _ _ _ _ (by show w.heap.size+1≠w1.heap.size;omega),E1_6.out] at h;exact h);obtain ⟨x0_8,f0_8⟩:=block_cell E0_8.out 0 _ rfl;obtain ⟨x1_8,f1_8⟩:=block_cell E0_8.out 1 _ rfl;obtain ⟨x2_8,f2_8⟩:=block_cell E0_8.out 2 _ rfl;obtain ⟨x3_8,f3_8⟩:=block_cell E0_8.out 3 _ rfl)
     |((with_reducible refine (rpower _ _ _ _ _ _ _ _ _ _ hfu (power_off HZ.out)).mono ?_);rintro e w9 ⟨rfl,hg9⟩;have hs9:w8.heap.size≤w9.heap.size:=(by have:=hg9.size;rw [size_set4] at this;exact this);have hgw9:=(below_set4 hgw8 (Nat.le_refl _) _ _ _ _).trans (hg9.mono (by rw [size_set4];exact hgw8.size));have hl10:w.heap.size < w9.heap.size:=(by omega);have hm10:w.heap.size+1 < w9.heap.size:=(by omega);have E0_9:=Lib.hid (by have h:=hg9.block w.heap.size (by rw [size_set4];exact hl9);rw [heap_set4_self _ _ _ _ E0_8.out] at h;exact h);have E1_9:=Lib.hid (by have h:=hg9.block (w.heap.size+1) (by rw [size_set4];exact hm9);rw [heap_set4 _ _ _ _ (by omega),E1_8.out] at h;exact h);obtain ⟨x0_9,f0_9⟩:=block_cell E0_9.out 0 _ rfl;obtain ⟨x1_9,f1_9⟩:=block_cell E0_9.out 1 _ rfl;obtain ⟨x2_9,f2_9⟩:=block_cell E0_9.out 2 _ rfl;obtain ⟨x3_9,f3_9⟩:=block_cell E0_9.out 3 _ rfl;obtain ⟨y0_9,g0_9⟩:=block_cell E1_9.out 0 _ rfl;obtain ⟨y1_9,g1_9⟩:=block_cell E1_9.out 1 _ rfl;obtain ⟨y2_9,g2_9⟩:=block_cell E1_9.out 2 _ rfl;obtain ⟨y3_9,g3_9⟩:=block_cell E1_9.out 3 _ rfl))
    refine bodyPost_ret (v:=.tuple #[.agg #[.slice A8 n8 c8,.int .i64 room,.int .i64 0,.bool true],.int .i64 9]) (by simp [results,Try.results37,go_sem,y0_9,y1_9,y2_9,y3_9]) rfl ?_
    rw [HR.out]
    have hT:∀ b',Out (Out S wc w6) (w6.setCell ⟨w1.heap.size,1,none⟩ (.slice A6 nb c6)) w8 b'→b'≠w.heap.size∧b'≠w.heap.size+1∧b' < w8.heap.size∧(S b'∨(w.heap.size≤b'∧b' < w9.heap.size)):=fun b' h'=>by
     rcases h' with (h' | h') | h'
     ·have:=hS b' h';exact ⟨by omega,by omega,by omega,.inl h'⟩
     ·exact ⟨by omega,by omega,by omega,.inr (by omega)⟩
     ·simp [World.setCell] at h';exact ⟨by omega,by omega,by omega,.inr (by omega)⟩
    have h9:=Elems.keep keeps_file hr8 (alike_set4 (fun h=>(hT _ h).1 rfl) (.slice A8 n8 c8) (.int .i64 room) (.int .i64 fuse) (.bool down)) (fun _ h=>h)
    have h10:=FilesIn.below h9 (fun b' h'=>by rw [size_set4];exact (hT b' h').2.2.1) hg9
    have h11:=Elems.keep keeps_file h10 (alike_set4 (fun h=>(hT _ h).1 rfl) (.slice A8 n8 c8) (.int .i64 room) (.int .i64 0) (.bool true)) (fun _ h=>h)
    exact ⟨A8,n8,c8,rfl,files_keep h11 (fun b' h'=>⟨(hT b' h').2.1,by rw [size_set4];exact (hT b' h').2.2.2⟩) _ _ _ _,hl8,hm8,hc8,below_set4 (below_set4 hgw9 (Nat.le_refl _) _ _ _ _) (by omega) _ _ _ _⟩
  ·have HZ:=Lib.hid hz
   clear hz
   obtain ⟨f2,HF2⟩:∃ f2,Hid ((if 0 < fuse then fuse - 1 else fuse)=f2):=⟨_,Lib.hid rfl⟩
   have HR:Hid (appendD ⟨fs,room,fuse,down⟩ nm bs=(⟨withF ⟨nm,bs,0⟩ fs,room,f2,down⟩,0)):=Lib.hid ((op_done hx.out (by unfold appE;rw [HL.out,HU1.out,HBN.out,HN.out];simp;omega) HZ.out HF2.out).trans (by unfold appF;rw [HOLD.out];rfl))
   go_enter Try.func37,Try.ntmps37
   go_wp2_with (first
    |((with_reducible refine (rfirst_is _ _ _ w.heap.size _ _ _ fs _ _ _ _ (by simp<;>omega) (HF.out _ (HW0.out _ _)) HN.out HC.out hr hfu HA.out HA.out hx.out).mono ?_);rintro e w1 ⟨rfl,hg1⟩;have hgw1:=(HW0.out _ _).trans (hg1.mono (by simp<;>omega));have hs1:w.heap.size+2≤w1.heap.size:=(by have:=hg1.size;simp at this;omega);have hl1:w.heap.size < w1.heap.size:=(by omega);have hm1:w.heap.size+1 < w1.heap.size:=(by omega);have E0_1:=Lib.hid ((hg1.block w.heap.size (by simp<;>omega)).trans K0.out);have E1_1:=Lib.hid ((hg1.block (w.heap.size+1) (by simp<;>omega)).trans K1.out);obtain ⟨x0_1,f0_1⟩:=block_cell E0_1.out 0 _ rfl;obtain ⟨x1_1,f1_1⟩:=block_cell E0_1.out 1 _ rfl;obtain ⟨x2_1,f2_1⟩:=block_cell E0_1.out 2 _ rfl;obtain ⟨x3_1,f3_1⟩:=block_cell E0_1.out 3 _ rfl;obtain ⟨y0_1,g0_1⟩:=block_cell E1_1.out 0 _ rfl;obtain ⟨y1_1,g1_1⟩:=block_cell E1_1.out 1 _ rfl;obtain ⟨y2_1,g2_1⟩:=block_cell E1_1.out 2 _ rfl;obtain ⟨y3_1,g3_1⟩:=block_cell E1_1.out 3 _ rfl)
    |((with_reducible refine (rfind_is _ _ _ w.heap.size _ _ _ _ fs _ _ (by simp<;>omega) (HF.out _ (hgw1.alloc hgw1.size _)) HN.out HC.out HG.out).mono ?_);rintro e w2 ⟨rfl,hg2⟩;have hgw2:=(hgw1.alloc hgw1.size _).trans (hg2.mono (by simp<;>omega));have hn2:w1.heap.size < w2.heap.size:=(by have:=hg2.size;simp at this;omega);have hl2:w.heap.size < w2.heap.size:=(by omega);have hm2:w.heap.size+1 < w2.heap.size:=(by omega);have E0_2:=Lib.hid ((hg2.block w.heap.size (by simp<;>omega)).trans ((Below.heap_alloc _ _ _ hl1).trans E0_1.out));have E1_2:=Lib.hid ((hg2.block (w.heap.size+1) (by simp<;>omega)).trans ((Below.heap_alloc _ _ _ hm1).trans E1_1.out));have EF_2:=Lib.hid ((hg2.block w1.heap.size (by simp)).trans (heap_alloc_new w1 _));obtain ⟨x0_2,f0_2⟩:=block_cell E0_2.out 0 _ rfl;obtain ⟨x1_2,f1_2⟩:=block_cell E0_2.out 1 _ rfl;obtain ⟨x2_2,f2_2⟩:=block_cell E0_2.out 2 _ rfl;obtain ⟨x3_2,f3_2⟩:=block_cell E0_2.out 3 _ rfl;obtain ⟨p0_2,r0_2⟩:=block_cell EF_2.out 0 _ rfl;obtain ⟨p1_2,r1_2⟩:=block_cell EF_2.out 1 _ rfl;obtain ⟨p2_2,r2_2⟩:=block_cell EF_2.out 2 _ rfl))
   go_cut [49] from 32 to 48 (fun v wx=>v = .bool false∧Kept w w1 wx #[.slice A n c,.int .i64 room,.int .i64 fuse,.bool down] (.string nm) (.slice none 0 0) (.int .i64 0))
   case first =>
    first
     |go_region_with (go_at_call 58;refine Calls.mono (HU.out _ (hgw2).drew) ?_;rintro e w3 ⟨rfl,hg3⟩;have hgw3:=(hgw2).drew.trans (hg3.mono (by have:=hgw2.size;simp [World.setCell]<;>omega));have hn3:w1.heap.size < w3.heap.size:=(by have:=hg3.size;simp [World.setCell] at this;omega);have hl3:w.heap.size < w3.heap.size:=(by omega);have hm3:w.heap.size+1 < w3.heap.size:=(by omega);have E0_3:=Lib.hid (by have h:=hg3.block w.heap.size (by simp<;>omega);rw [heap_drew,E0_2.out] at h;exact h);have E1_3:=Lib.hid (by have h:=hg3.block (w.heap.size+1) (by simp<;>omega);rw [heap_drew,E1_2.out] at h;exact h);have EF_3:=Lib.hid (by have h:=hg3.block w1.heap.size (by simp<;>omega);rw [heap_drew,EF_2.out] at h;exact h);obtain ⟨x0_3,f0_3⟩:=block_cell E0_3.out 0 _ rfl;obtain ⟨x1_3,f1_3⟩:=block_cell E0_3.out 1 _ rfl;obtain ⟨x2_3,f2_3⟩:=block_cell E0_3.out 2 _ rfl;obtain ⟨x3_3,f3_3⟩:=block_cell E0_3.out 3 _ rfl)
     |fail
    all_goals (go_wp2_with fail;go_meet;exact ⟨by first | rfl | (simp;omega),hgw3,hn3,E0_3.out,E1_3.out,EF_3.out⟩)
   case rest =>
    obtain ⟨rfl,hgw3,hn3,e0,e1,eF⟩:=hcut
    have hl3:w.heap.size < wc.heap.size:=by omega
    have hm3:w.heap.size+1 < wc.heap.size:=by omega
    have E0_3:=Lib.hid e0
    have E1_3:=Lib.hid e1
    have EF_3:=Lib.hid eF
    clear e0 e1 eF hwrap
    obtain ⟨x0_3,f0_3⟩:=block_cell E0_3.out 0 _ rfl;obtain ⟨x1_3,f1_3⟩:=block_cell E0_3.out 1 _ rfl;obtain ⟨x2_3,f2_3⟩:=block_cell E0_3.out 2 _ rfl;obtain ⟨x3_3,f3_3⟩:=block_cell E0_3.out 3 _ rfl;obtain ⟨y0_3,g0_3⟩:=block_cell E1_3.out 0 _ rfl;obtain ⟨y1_3,g1_3⟩:=block_cell E1_3.out 1 _ rfl;obtain ⟨y2_3,g2_3⟩:=block_cell E1_3.out 2 _ rfl;obtain ⟨y3_3,g3_3⟩:=block_cell E1_3.out 3 _ rfl;obtain ⟨p0_3,r0_3⟩:=block_cell EF_3.out 0 _ rfl;obtain ⟨p1_3,r1_3⟩:=block_cell EF_3.out 1 _ rfl;obtain ⟨p2_3,r2_3⟩:=block_cell EF_3.out 2 _ rfl
    have HWI:Hid (∀ (w6:World) (A6:Option Addr) (c6:Nat),OwnBys w6 wc.heap.size 5 A6 nb c6 bs→Below wc.heap.size wc w6 →
      Calls Try.prog 57 #[.agg #[.slice A n c,.int .i64 room,.int .i64 fuse,.bool down],.agg #[.string nm,.slice A6 nb c6,.int .i64 0]] (w6.setCell ⟨w1.heap.size,1,none⟩ (.slice A6 nb c6)) (RetDisk (Out S wc w6) (w6.setCell ⟨w1.heap.size,1,none⟩ (.slice A6 nb c6)) ⟨withF ⟨nm,bs,0⟩ fs,room,fuse,down⟩)):=Lib.hid (fun w6 A6 c6 h1 h2 =>
     with_grown HFI.out hS hgw3 hgw1.size hn3 HN.out hc h1 h2 (by exact HA.out) HFL.out (by unfold inI;omega))
    go_wp2_with (first
     |(at_builtin;refine wpList_append_bys rfl (.tmp 51) (.tmp 53) _ rfl wc.heap.size 5 Try.underlying27 hinfo.out rfl (OwnBys.new (Nat.le_refl _) [] rfl (by simp) rfl (by unfold maxLen;omega)) rfl (HQ.out _ (hgw3.alloc hgw3.size _)) HQL.out (by omega) (by simp) ?_;intro A5 c5 w5 hown5 hgr5 hat5;have hb5:Below wc.heap.size wc w5:=((Below.refl _ _).alloc (Nat.le_refl _) _).grown hgr5 (by simp) (by intro g hgg;simp [Value.ownBlock] at hgg;omega);clear hgr5 hat5;simp only [Nat.zero_add,List.nil_append] at hown5)
     |(at_builtin;refine wpList_append_bys rfl (.tmp 54) (.tmp 55) _ rfl wc.heap.size 5 Try.underlying27 hinfo.out rfl hown5 rfl (HBB.out _ (hgw3.trans (hb5.mono hgw3.size))) HBN.out (by omega) hb5.size ?_;intro A6 c6 w6 hown6 hgr6 hat6;have hb6:Below wc.heap.size wc w6:=hb5.grown hgr6 hb5.size (fun g hgg=>(hown5.block g hgg).1);clear hgr6 hat6;try simp only [Nat.zero_add,List.nil_append] at hown6;have hs6:=hb6.size;have hl6:w.heap.size < w6.heap.size:=(by omega);have hm6:w.heap.size+1 < w6.heap.size:=(by omega);have hn6:w1.heap.size < w6.heap.size:=(by omega);have E0_6:=Lib.hid ((hb6.block w.heap.size hl3).trans E0_3.out);have E1_6:=Lib.hid ((hb6.block (w.heap.size+1) hm3).trans E1_3.out);have EF_6:=Lib.hid ((hb6.block w1.heap.size hn3).trans EF_3.out);obtain ⟨x0_6,f0_6⟩:=block_cell E0_6.out 0 _ rfl;obtain ⟨x1_6,f1_6⟩:=block_cell E0_6.out 1 _ rfl;obtain ⟨x2_6,f2_6⟩:=block_cell E0_6.out 2 _ rfl;obtain ⟨x3_6,f3_6⟩:=block_cell E0_6.out 3 _ rfl;obtain ⟨p0_6,r0_6⟩:=block_cell EF_6.out 0 _ rfl;obtain ⟨p1_6,r1_6⟩:=block_cell EF_6.out 1 _ rfl;obtain ⟨p2_6,r2_6⟩:=block_cell EF_6.out 2 _ rfl)
     |(refine Calls.mono (HWI.out _ _ _ hown6 hb6) ?_;rintro e w8 ⟨A8,n8,c8,rfl,hr8,hl8,hm8,hc8,hg8⟩;have hs8:w6.heap.size≤w8.heap.size:=(by have:=hg8.size;simp [World.setCell] at this;exact this);have hgw8:Below w.heap.size w w8:=((hgw3.trans (hb6.mono hgw3.size)).setCell (p:=⟨w1.heap.size,1,none⟩) hgw1.size _).trans (hg8.mono (by simp [World.setCell]<;>omega));have hl9:w.heap.size < w8.heap.size:=(by omega);have hm9:w.heap.size+1 < w8.heap.size:=(by omega);have E0_8:=Lib.hid (by have h:=hg8.block w.heap.size (by simp [World.setCell]<;>omega);rw [Below.heap_setCell _ _ _ _ (by show w.heap.size≠w1.heap.size;omega),E0_6.out] at h;exact h);have E1_8:=Lib.hid (by have h:=hg8.block (w.heap.size+1) (by simp [World.setCell]<;>omega);rw [Below.heap_setCell _ _ _ _ (by show w.heap.size+1≠w1.heap.size;omega),E1_6.out] at h;exact h);obtain ⟨x0_8,f0_8⟩:=block_cell E0_8.out 0 _ rfl;obtain ⟨x1_8,f1_8⟩:=block_cell E0_8.out 1 _ rfl;obtain ⟨x2_8,f2_8⟩:=block_cell E0_8.out 2 _ rfl;obtain ⟨x3_8,f3_8⟩:=block_cell E0_8.out 3 _ rfl)
     |((with_reducible refine (rpower _ _ _ _ _ _ _ _ _ _ hfu (power_on HZ.out HF2.out)).mono ?_);rintro e w9 ⟨rfl,hg9⟩;have hs9:w8.heap.size≤w9.heap.size:=(by have:=hg9.size;rw [size_set4] at this;exact this);have hgw9:=(below_set4 hgw8 (Nat.le_refl _) _ _ _ _).trans (hg9.mono (by rw [size_set4];exact hgw8.size));have hl10:w.heap.size < w9.heap.size:=(by omega);have hm10:w.heap.size+1 < w9.heap.size:=(by omega);have E0_9:=Lib.hid (by have h:=hg9.block w.heap.size (by rw [size_set4];exact hl9);rw [heap_set4_self _ _ _ _ E0_8.out] at h;exact h);have E1_9:=Lib.hid (by have h:=hg9.block (w.heap.size+1) (by rw [size_set4];exact hm9);rw [heap_set4 _ _ _ _ (by omega),E1_8.out] at h;exact h);obtain ⟨x0_9,f0_9⟩:=block_cell E0_9.out 0 _ rfl;obtain ⟨x1_9,f1_9⟩:=block_cell E0_9.out 1 _ rfl;obtain ⟨x2_9,f2_9⟩:=block_cell E0_9.out 2 _ rfl;obtain ⟨x3_9,f3_9⟩:=block_cell E0_9.out 3 _ rfl;obtain ⟨y0_9,g0_9⟩:=block_cell E1_9.out 0 _ rfl;obtain ⟨y1_9,g1_9⟩:=block_cell E1_9.out 1 _ rfl;obtain ⟨y2_9,g2_9⟩:=block_cell E1_9.out 2 _ rfl;obtain ⟨y3_9,g3_9⟩:=block_cell E1_9.out 3 _ rfl))
    refine bodyPost_ret (v:=.tuple #[.agg #[.slice A8 n8 c8,.int .i64 room,.int .i64 f2,.bool down],.int .i64 0]) (by simp [results,Try.results37,go_sem,y0_9,y1_9,y2_9,y3_9]) rfl ?_
    rw [HR.out]
    have hT:∀ b',Out (Out S wc w6) (w6.setCell ⟨w1.heap.size,1,none⟩ (.slice A6 nb c6)) w8 b'→b'≠w.heap.size∧b'≠w.heap.size+1∧b' < w8.heap.size∧(S b'∨(w.heap.size≤b'∧b' < w9.heap.size)):=fun b' h'=>by
     rcases h' with (h' | h') | h'
     ·have:=hS b' h';exact ⟨by omega,by omega,by omega,.inl h'⟩
     ·exact ⟨by omega,by omega,by omega,.inr (by omega)⟩
     ·simp [World.setCell] at h';exact ⟨by omega,by omega,by omega,.inr (by omega)⟩
    have h9:=Elems.keep keeps_file hr8 (alike_set4 (fun h=>(hT _ h).1 rfl) (.slice A8 n8 c8) (.int .i64 room) (.int .i64 fuse) (.bool down)) (fun _ h=>h)
    have h10:=FilesIn.below h9 (fun b' h'=>by rw [size_set4];exact (hT b' h').2.2.1) hg9
    have h11:=Elems.keep keeps_file h10 (alike_set4 (fun h=>(hT _ h).1 rfl) (.slice A8 n8 c8) (.int .i64 room) (.int .i64 f2) (.bool down)) (fun _ h=>h)
    exact ⟨A8,n8,c8,rfl,files_keep h11 (fun b' h'=>⟨(hT b' h').2.1,by rw [size_set4];exact (hT b' h').2.2.2⟩) _ _ _ _,hl8,hm8,hc8,below_set4 (below_set4 hgw9 (Nat.le_refl _) _ _ _ _) (by omega) _ _ _ _⟩
end Go.Proofs.Ytlipgnenbdchmaa.disk
