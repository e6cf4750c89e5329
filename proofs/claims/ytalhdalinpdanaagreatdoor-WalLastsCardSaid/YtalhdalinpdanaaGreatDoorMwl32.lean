/-
  ScanRow, FrameRef2, FrameRef3, ScanPut
-/
import Derived.Test.YtalhdalinpdanaaGreatDoorMwl24
set_option linter.unusedVariables false
set_option linter.unusedSimpArgs false
section
namespace Go.Proofs.YtalhdalinpdanaaGreatDoor.scan
set_option maxRecDepth 20000
open Go.RowKit Go.Proofs.YtalhdalinpdanaaGreatDoor Go.Proofs.YtalhdalinpdanaaGreatDoor.frame
def At (l:List Fr) (n ep:Int) (R:Bool) (j:Nat) (n' e' : Int):Prop :=
 row (l.drop j) n' e'=R∧(j=0→n'=n∧e'=ep)∧(∀ i f,j=i+1→l[i]?=some f→f.l+1=n'∧f.e=e'∧1≤f.l∧f.l≤1000000000)
theorem At.next {l:List Fr} {n ep:Int} {R:Bool} {j:Nat} {n' e' : Int} (h:At l n ep R j n' e') {f:Fr} (hf:l[j]?=some f) (h1:firstB f n' e'=true):At l n ep R (j+1) (f.l+1) f.e:=by
 obtain ⟨h2,_,_⟩:=h
 rw [row_drop hf,h1] at h2
 have hr:=firstB_right h1
 have hfit:=right_fit hr.1
 refine ⟨by rw [← h2,hr.2.1];rfl,by omega,fun i g hi hg=>?_⟩
 obtain rfl:j=i:=by omega
 rw [hf] at hg
 injection hg with hg
 subst hg
 exact ⟨rfl,rfl,hfit.2.2.1,hfit.2.2.2.1⟩
end Go.Proofs.YtalhdalinpdanaaGreatDoor.scan
end
section
namespace Go.Proofs.YtalhdalinpdanaaGreatDoor.frame
set_option maxRecDepth 20000
open Go.RowKit Go.Proofs.YtalhdalinpdanaaGreatDoor
theorem rsum_is (A:Option Addr) (n cap B:Nat) (bs:List Nat) (s:Nat) (w:World) (hx:Bys w B A bs) (hn:bs.length=n) (hm:n≤140737488355328) (hs:crc.more 0 bs=s) :
  Calls Tryz.prog 112 #[.slice A n cap] w fun e w'=>e = .returned (.int .u32 (s:Int))∧w=w':=by
 subst hs;exact crc.rsum A n cap B bs w hx hn hm
set_option maxHeartbeats 2000000 in
theorem rencode_of {e l k b0 b1 b2 b3 b4 b5:Int} {f:Fr} (hf:(⟨e,l,k,b0,b1,b2,b3,b4,b5⟩:Fr)=f) (w:World):Calls Tryz.prog 75 #[.agg #[.int .i64 e,.int .i64 l,.int .i64 k,.int .i64 b0,.int .i64 b1,.int .i64 b2,.int .i64 b3,.int .i64 b4,.int .i64 b5]] w (Made (enc f) 72 w):=by
 have hinfo:Hid ((Tryz.prog.info? 5).map (fun i=>(i.zero,i.size,i.bytes))=some (some (.int .u8 0),1,1)):=Lib.hid (by kernel_rfl)
 have HF:=Lib.hid hf
 clear hf
 obtain ⟨W0,HW0⟩:∃ W,Hid (w.alloc (.cells #[.int .i64 e,.int .i64 l,.int .i64 k,.int .i64 b0,.int .i64 b1,.int .i64 b2,.int .i64 b3,.int .i64 b4,.int .i64 b5] 72)=W):=⟨_,Lib.hid rfl⟩
 have hsz:w.heap.size+1=W0.heap.size:=by rw [← HW0.out];simp
 have HBW:Hid (Below w.heap.size w W0):=Lib.hid (by rw [← HW0.out];exact (Below.refl _ _).alloc (Nat.le_refl _) _)
 have HK:Hid (∀ W,Below (w.heap.size+1) W0 W→W.heap[w.heap.size]?=some (.cells #[.int .i64 e,.int .i64 l,.int .i64 k,.int .i64 b0,.int .i64 b1,.int .i64 b2,.int .i64 b3,.int .i64 b4,.int .i64 b5] 72 (0,0))):=Lib.hid (fun W hb=>(hb.block _ (by omega)).trans (by rw [← HW0.out];exact heap_alloc_new w _))
 have HE:Hid (OwnBys (W0.alloc (.cells #[.int .u8 0,.int .u8 0,.int .u8 0,.int .u8 72] 5)) (w.heap.size+1) 5 (some ⟨w.heap.size+1,0,none⟩) 4 4 (be 4 72)):=Lib.hid (by
  rw [hsz];exact OwnBys.new (Nat.le_refl _) (be 4 72) (by rfl) (be_lt 4 72) (by rfl) (by unfold maxLen;omega))
 have hb0:Below (w.heap.size+1) W0 (W0.alloc (.cells #[.int .u8 0,.int .u8 0,.int .u8 0,.int .u8 72] 5)):=(Below.refl _ _).alloc (by omega) _
 have HX0:Hid ((W0.alloc (.cells #[.int .u8 0,.int .u8 0,.int .u8 0,.int .u8 72] 5)).heap[w.heap.size]?=some (.cells #[.int .i64 e,.int .i64 l,.int .i64 k,.int .i64 b0,.int .i64 b1,.int .i64 b2,.int .i64 b3,.int .i64 b4,.int .i64 b5] 72 (0,0))):=Lib.hid (HK.out _ hb0)
 have HB0:=Lib.hid hb0
 have HSZ:=Lib.hid hsz
 clear hb0 hsz
 have x0:(W0.alloc (.cells #[.int .u8 0,.int .u8 0,.int .u8 0,.int .u8 72] 5)).cell? ⟨w.heap.size,0,none⟩=some (.int .i64 e):=(block_cell HX0.out 0 _ rfl).1
 rw [← HW0.out] at x0
 go_enter Tryz.func75,Tryz.ntmps75
 go_wp2_with fail
 rw [HW0.out]
 refine Calls.mono (four_is (u e) _ _ (wrap_u e) (u_lt e)) ?_
 rintro e' w1 ⟨A1,c1,rfl,hown1,hb1⟩
 have ho1:=own_later HE.out hb1
 have hg1:Below (w.heap.size+1) W0 w1:=HB0.out.trans (hb1.mono (by have:=HB0.out.size;have:=HSZ.out;omega))
 clear hb1 x0
 go_wp2_with (at_builtin;refine wpList_append_bys rfl (.tmp 6) (.tmp 10) _ rfl (w.heap.size+1) 5 Tryz.underlying62 hinfo.out rfl ho1 rfl hown1.bys (be_len 4 _) (by omega) (by have:=hg1.size;have:=HSZ.out;omega) ?_;intro A2 c2 w2 hown2 hgr hat;have hg2:Below (w.heap.size+1) W0 w2:=hg1.grown hgr (by have:=hg1.size;have:=HSZ.out;omega) (by intro g' hgg;exact (ho1.block g' hgg).1);clear hgr hat;have x1:w2.cell? ⟨w.heap.size,1,none⟩=some (.int .i64 l):=(block_cell (HK.out w2 hg2) 1 _ rfl).1;clear ho1 hown1 hg1)
 refine Calls.mono (reight_any l _) ?_
 rintro e' w3 ⟨A3,c3,rfl,hown3,hb3⟩
 have ho3:=own_later hown2 hb3
 have hg3:Below (w.heap.size+1) W0 w3:=hg2.trans (hb3.mono (by have:=hg2.size;have:=HSZ.out;omega))
 clear hb3 x1 hown2 hg2
 go_wp2_with (at_builtin;refine wpList_append_bys rfl (.tmp 12) (.tmp 15) _ rfl (w.heap.size+1) 5 Tryz.underlying62 hinfo.out rfl ho3 rfl hown3.bys (be_len 8 _) (by omega) (by have:=hg3.size;have:=HSZ.out;omega) ?_;intro A4 c4 w4 hown4 hgr hat;have hg4:Below (w.heap.size+1) W0 w4:=hg3.grown hgr (by have:=hg3.size;have:=HSZ.out;omega) (by intro g' hgg;exact (ho3.block g' hgg).1);clear hgr hat;have x2:w4.cell? ⟨w.heap.size,2,none⟩=some (.int .i64 k):=(block_cell (HK.out w4 hg4) 2 _ rfl).1;clear ho3 hown3 hg3)
 refine Calls.mono (four_is (u k) _ _ (wrap_u k) (u_lt k)) ?_
 rintro e' w5 ⟨A5,c5,rfl,hown5,hb5⟩
 have ho5:=own_later hown4 hb5
 have hg5:Below (w.heap.size+1) W0 w5:=hg4.trans (hb5.mono (by have:=hg4.size;have:=HSZ.out;omega))
 clear hb5 x2 hown4 hg4
 go_wp2_with (at_builtin;refine wpList_append_bys rfl (.tmp 17) (.tmp 21) _ rfl (w.heap.size+1) 5 Tryz.underlying62 hinfo.out rfl ho5 rfl hown5.bys (be_len 4 _) (by omega) (by have:=hg5.size;have:=HSZ.out;omega) ?_;intro A6 c6 w6 hown6 hgr hat;have hg6:Below (w.heap.size+1) W0 w6:=hg5.grown hgr (by have:=hg5.size;have:=HSZ.out;omega) (by intro g' hgg;exact (ho5.block g' hgg).1);clear hgr hat;clear ho5 hown5 hg5)
 have hp0:be 4 72++be 4 (u e)++be 8 (u l)++be 4 (u k)=pre f 0:=by rw [← HF.out];simp [pre,List.append_assoc]
 rw [hp0] at hown6
 have HBD:Hid (f.body 0=b0∧f.body 1=b1∧f.body 2=b2∧f.body 3=b3∧f.body 4=b4∧f.body 5=b5):=Lib.hid (by rw [← HF.out];exact ⟨rfl,rfl,rfl,rfl,rfl,rfl⟩)
 clear hp0
 have HBI:Hid (∀ (W:World) (j:Nat),j < 6→Below (w.heap.size+1) W0 W→W.cell? ⟨w.heap.size,3+j,none⟩=some (.int .i64 (f.body j))):=Lib.hid (fun W j hj hb=>(block_cell (HK.out W hb) (3+j) _ (by
  obtain ⟨g0,g1,g2,g3,g4,g5⟩:=HBD.out
  rcases (show j=0∨j=1∨j=2∨j=3∨j=4∨j=5 by omega) with rfl | rfl | rfl | rfl | rfl | rfl
  ·rw [g0];rfl
  ·rw [g1];rfl
  ·rw [g2];rfl
  ·rw [g3];rfl
  ·rw [g4];rfl
  ·rw [g5];rfl)).1)
 go_loopw [3,4] (fun t i wr => ∃ (j:Nat) (A:Option Addr) (n c:Nat),j≤6∧n=20+8 * j∧i = .int .i64 j∧t = .slice A n c∧OwnBys wr (w.heap.size+1) 5 A n c (pre f j)∧Below (w.heap.size+1) W0 wr) (fun _ i _=>6 - (intOf i).toNat)
 case atStart=>exact ⟨0,A6,20,c6,by omega,rfl,rfl,rfl,hown6,hg6⟩
 case round =>
  obtain ⟨j,A,n,c,hj,hnj,rfl,rfl,hown,hbr⟩:=hrel
  by_cases hlt:j < 6
  ·obtain ⟨x,HX⟩:∃ x,Hid (f.body j=x):=⟨_,Lib.hid rfl⟩
   have xc:wr.cell? ⟨w.heap.size,3+j,none⟩=some (.int .i64 x):=by rw [← HX.out];exact HBI.out wr j hlt hbr
   have HN:=Lib.hid hnj
   have hn60:n≤60:=by omega
   clear hnj
   go_wp2_with (first
    |((with_reducible refine Calls.mono (reight_any x _) ?_);rintro e' w7 ⟨A7,c7,rfl,hown7,hb7⟩;have ho7:=own_later hown hb7;have hg7:Below (w.heap.size+1) W0 w7:=hbr.trans (hb7.mono (by have:=hbr.size;have:=HSZ.out;omega));clear hb7)
    |(at_builtin;refine wpList_append_bys rfl (.tmp 27) (.tmp 32) _ rfl (w.heap.size+1) 5 Tryz.underlying62 hinfo.out rfl ho7 rfl hown7.bys (be_len 8 _) (by omega) (by have:=hg7.size;have:=HSZ.out;omega) ?_;intro A8 c8 w8 hown8 hgr hat;have hg8:Below (w.heap.size+1) W0 w8:=hg7.grown hgr (by have:=hg7.size;have:=HSZ.out;omega) (by intro g' hgg;exact (ho7.block g' hgg).1);clear hgr hat))
   go_roundw
   case rel=>exact ⟨j+1,A8,n+8,c8,by omega,by have:=HN.out;omega,by go_num,rfl,by rw [← HX.out] at hown8;exact hown8,hg8⟩
   case measure=>first | (simp [intOf];done) | (simp [intOf];omega)
  ·obtain rfl:j=6:=by omega
   obtain rfl:n=68:=by omega
   rw [pre_all] at hown
   obtain ⟨s,HS⟩:∃ s,Hid (crc.more 0 (data f)=s):=⟨_,Lib.hid rfl⟩
   have hsl:s < 4294967296:=by rw [← HS.out];exact crc.more_lt _ (by omega) (fun b hb=>by have:=data_lt f b hb;omega)
   have HSUM:=Lib.hid (rsum_is A 68 c wr.heap.size (data f) s wr hown.bys (data_len f) (by omega) HS.out)
   have hrow:Hid (Bys (wr.alloc (.cells #[.int .u8 ((s:Int) % 256),.int .u8 ((s:Int) / 256 % 256),.int .u8 ((s:Int) / 65536 % 256),.int .u8 ((s:Int) / 16777216)] 5)) (wr.heap.size+1) (some ⟨wr.heap.size,0,none⟩) (le4 s)):=Lib.hid (Bys.new (le4 s) (by simp [toI,le4];omega) (le4_lt s))
   have hoa:=hown.alloc (.cells #[.int .u8 ((s:Int) % 256),.int .u8 ((s:Int) / 256 % 256),.int .u8 ((s:Int) / 65536 % 256),.int .u8 ((s:Int) / 16777216)] 5)
   have hga:=hbr.alloc (by have:=hbr.size;have:=HSZ.out;omega) (.cells #[.int .u8 ((s:Int) % 256),.int .u8 ((s:Int) / 256 % 256),.int .u8 ((s:Int) / 65536 % 256),.int .u8 ((s:Int) / 16777216)] 5)
   go_wp2_with (first
    |((with_reducible refine Calls.mono HSUM.out ?_);rintro e' w7 ⟨rfl,rfl⟩)
    |(at_builtin;refine wpList_append_bys rfl (.tmp 36) (.tmp 51) _ rfl (w.heap.size+1) 5 Tryz.underlying62 hinfo.out rfl hoa rfl hrow.out (by rfl) (by omega) (by have:=hga.size;have:=HSZ.out;omega) ?_;intro A8 c8 w8 hown8 hgr hat;have hg8:Below (w.heap.size+1) W0 w8:=hga.grown hgr (by have:=hga.size;have:=HSZ.out;omega) (by intro g' hgg;exact (hoa.block g' hgg).1);clear hgr hat))
   go_ret
   refine ⟨A8,c8,rfl,?_,HBW.out.trans (hg8.mono (by omega))⟩
   have he:enc f=data f++le4 s:=by unfold enc;rw [HS.out]
   rw [he]
   exact own_base hown8 (by omega)
end Go.Proofs.YtalhdalinpdanaaGreatDoor.frame
end
section
namespace Go.Proofs.YtalhdalinpdanaaGreatDoor.frame
set_option maxRecDepth 20000
open Go.RowKit Go.Proofs.YtalhdalinpdanaaGreatDoor
end Go.Proofs.YtalhdalinpdanaaGreatDoor.frame
end
section
namespace Go.Proofs.YtalhdalinpdanaaGreatDoor.scan
set_option maxRecDepth 20000
open Go.RowKit Go.Proofs.YtalhdalinpdanaaGreatDoor Go.Proofs.YtalhdalinpdanaaGreatDoor.frame
def allRight (l:List Fr):Bool:=l.all right
def Putted (l:List Fr) (w:World) (e:Ending) (w' : World):Prop :=
 ∃ A c,e = .returned (.tuple #[.slice A (72 * l.length) c,.int .i64 0])∧OwnBys w' w.heap.size 5 A (72 * l.length) c (put l)∧Below w.heap.size w w'
theorem put_take {l:List Fr} {j:Nat} {f:Fr} (h:l[j]?=some f):put (l.take (j+1))=put (l.take j)++enc f:=by
 rw [List.take_add_one,h];simp [put]
theorem right_take {l:List Fr} {j:Nat} {f:Fr} (h:l[j]?=some f) (h1:allRight l=true):right f=true:=by
 unfold allRight at h1;rw [List.all_eq_true] at h1
 exact h1 f (List.mem_of_getElem? h)
set_option maxHeartbeats 2000000 in
theorem put_yes (A:Option Addr) (m c:Nat) (l:List Fr) (w:World) (hx:Frs w w.heap.size A l) (hm:l.length=m) (hmax:m≤100) (hr:allRight l=true) :
  Calls Tryz.prog 67 #[.slice A m c] w (Putted l w):=by
 have HM:Hid (l.length=m):=Lib.hid hm
 have HR:Hid (allRight l=true):=Lib.hid hr
 clear hm hr
 have hinfo:Hid ((Tryz.prog.info? 5).map (fun i=>(i.zero,i.size,i.bytes))=some (some (.int .u8 0),1,1)):=Lib.hid (by kernel_rfl)
 go_enter Tryz.func67,Tryz.ntmps67
 go_wp2
 go_loopw [4,11] (fun s i wr => ∃ (j c' : Nat) (A' : Option Addr),j≤m∧i = .int .i64 j∧s = .slice A' (72 * j) c'∧Hid (OwnBys wr w.heap.size 5 A' (72 * j) c' (put (l.take j)))∧Below w.heap.size w wr) (fun _ i _=>m - (intOf i).toNat)
 case atStart=>exact ⟨0,0,none,Nat.zero_le _,rfl,rfl,Lib.hid OwnBys.nil,Below.refl _ _⟩
 case round =>
  obtain ⟨j,c',A',hj,rfl,rfl,HO,hbr⟩:=hrel
  by_cases hlt:j < m
  ·obtain ⟨b,off,e,k,kd,b0,b1,b2,b3,b4,b5,rfl,hb,HX,x0,x1,x2,x3,x4,x5,x6,x7,x8,HF⟩:=(hx.below hbr).at_ (j:=j) (by rw [HM.out];exact hlt)
   have hsz:=hbr.size
   have hblt:b < wr.heap.size:=by omega
   obtain ⟨f,HFF⟩:∃ f,Hid ((⟨e,k,kd,b0,b1,b2,b3,b4,b5⟩:Fr)=f):=⟨_,Lib.hid rfl⟩
   have HC:Hid (∀ W,Calls Tryz.prog 106 #[.agg #[.int .i64 e,.int .i64 k,.int .i64 kd,.int .i64 b0,.int .i64 b1,.int .i64 b2,.int .i64 b3,.int .i64 b4,.int .i64 b5]] W (Encoded f W)):=Lib.hid (fun W=>encode_yes_of HFF.out (by rw [← HFF.out];exact HF.out) (right_take (by rw [HX.out,HFF.out]) HR.out) W)
   have HP:Hid (put (l.take (j+1))=put (l.take j)++enc f):=Lib.hid (put_take (by rw [HX.out,HFF.out]))
   have HW:=Lib.hid (hbr.alloc hsz (.cells #[.int .i64 e,.int .i64 k,.int .i64 kd,.int .i64 b0,.int .i64 b1,.int .i64 b2,.int .i64 b3,.int .i64 b4,.int .i64 b5] 72))
   go_wp2_with fail
   refine Calls.mono (HC.out _) ?_
   rintro e1 w1 ⟨g,rfl,hown,hb1⟩
   have HB1:=Lib.hid (HW.out.trans (hb1.mono (by simp;omega)))
   have HO1:Hid (OwnBys w1 w.heap.size 5 A' (72 * j) c' (put (l.take j))):=Lib.hid (own_later (own_later HO.out ((Below.refl _ _).alloc (Nat.le_refl _) _)) hb1)
   have HG1:=Lib.hid hown.bys
   have hsz1:w.heap.size≤w1.heap.size:=HB1.out.size
   clear hb1 hown
   go_wp2_with (at_builtin;refine wpList_append_bys rfl (.tmp 23) (.tmp 24) _ rfl w.heap.size 5 Tryz.underlying62 hinfo.out rfl HO1.out rfl HG1.out (enc_len f) (by omega) hsz1 ?_;intro A3 c3 w3 hown3 hgr3 hat3;have HO3:Hid (OwnBys w3 w.heap.size 5 A3 (72 * (j+1)) c3 (put (l.take (j+1)))):=Lib.hid (by rw [HP.out];exact hown3);have hb3:Below w.heap.size w w3:=HB1.out.grown hgr3 hsz1 (fun g hg=>(HO1.out.block g hg).1);clear hgr3 hat3 hown3)
   go_roundw
   case rel=>exact ⟨j+1,c3,A3,by omega,by go_num,rfl,HO3,hb3⟩
   case measure=>first | (simp [intOf];done) | (simp [intOf];omega)
  ·have HE:Hid (l.take j=l):=Lib.hid (List.take_of_length_le (by rw [HM.out];omega))
   have hjm:j=m:=by omega
   subst hjm
   go_wp2
   go_ret2
   refine ⟨A',c',by rw [HM.out];rfl,by rw [HM.out];have:=HO.out;rw [HE.out] at this;exact this,hbr⟩
set_option maxHeartbeats 2000000 in
theorem rput_any (A:Option Addr) (m c:Nat) (l:List Fr) (w:World) (hx:Frs w w.heap.size A l) (hm:l.length=m) (hmax:m≤100) :
  Calls Tryz.prog 40 #[.slice A m c] w (Made (put l) (72 * m) w):=by
 have HM:Hid (l.length=m):=Lib.hid hm
 clear hm
 have hinfo:Hid ((Tryz.prog.info? 5).map (fun i=>(i.zero,i.size,i.bytes))=some (some (.int .u8 0),1,1)):=Lib.hid (by kernel_rfl)
 go_enter Tryz.func40,Tryz.ntmps40
 go_wp2
 go_loopw [3,4] (fun s i wr => ∃ (j c' : Nat) (A' : Option Addr),j≤m∧i = .int .i64 j∧s = .slice A' (72 * j) c'∧Hid (OwnBys wr w.heap.size 5 A' (72 * j) c' (put (l.take j)))∧Below w.heap.size w wr) (fun _ i _=>m - (intOf i).toNat)
 case atStart=>exact ⟨0,0,none,Nat.zero_le _,rfl,rfl,Lib.hid OwnBys.nil,Below.refl _ _⟩
 case round =>
  obtain ⟨j,c',A',hj,rfl,rfl,HO,hbr⟩:=hrel
  by_cases hlt:j < m
  ·obtain ⟨b,off,e,k,kd,b0,b1,b2,b3,b4,b5,rfl,hb,HX,x0,x1,x2,x3,x4,x5,x6,x7,x8,HF⟩:=(hx.below hbr).at_ (j:=j) (by rw [HM.out];exact hlt)
   have hsz:=hbr.size
   have hblt:b < wr.heap.size:=by omega
   obtain ⟨f,HFF⟩:∃ f,Hid ((⟨e,k,kd,b0,b1,b2,b3,b4,b5⟩:Fr)=f):=⟨_,Lib.hid rfl⟩
   have HC:Hid (∀ W,Calls Tryz.prog 75 #[.agg #[.int .i64 e,.int .i64 k,.int .i64 kd,.int .i64 b0,.int .i64 b1,.int .i64 b2,.int .i64 b3,.int .i64 b4,.int .i64 b5]] W (Made (enc f) 72 W)):=Lib.hid (fun W=>rencode_of HFF.out W)
   have HP:Hid (put (l.take (j+1))=put (l.take j)++enc f):=Lib.hid (put_take (by rw [HX.out,HFF.out]))
   have HW:=Lib.hid hbr
   go_wp2_with fail
   refine Calls.mono (HC.out _) ?_
   rintro e1 w1 ⟨A1,c1,rfl,hown,hb1⟩
   have HB1:=Lib.hid (HW.out.trans (hb1.mono hsz))
   have HO1:Hid (OwnBys w1 w.heap.size 5 A' (72 * j) c' (put (l.take j))):=Lib.hid (own_later HO.out hb1)
   have HG1:=Lib.hid hown.bys
   have hsz1:w.heap.size≤w1.heap.size:=HB1.out.size
   clear hb1 hown
   go_wp2_with (at_builtin;refine wpList_append_bys rfl (.tmp 11) (.tmp 16) _ rfl w.heap.size 5 Tryz.underlying62 hinfo.out rfl HO1.out rfl HG1.out (enc_len f) (by omega) hsz1 ?_;intro A3 c3 w3 hown3 hgr3 hat3;have HO3:Hid (OwnBys w3 w.heap.size 5 A3 (72 * (j+1)) c3 (put (l.take (j+1)))):=Lib.hid (by rw [HP.out];exact hown3);have hb3:Below w.heap.size w w3:=HB1.out.grown hgr3 hsz1 (fun g hg=>(HO1.out.block g hg).1);clear hgr3 hat3 hown3)
   go_roundw
   case rel=>exact ⟨j+1,c3,A3,by omega,by go_num,rfl,HO3,hb3⟩
   case measure=>first | (simp [intOf];done) | (simp [intOf];omega)
  ·have HE:Hid (l.take j=l):=Lib.hid (List.take_of_length_le (by rw [HM.out];omega))
   have hjm:j=m:=by omega
   subst hjm
   go_wp2
   go_ret
   refine ⟨A',c',rfl,by have:=HO.out;rw [HE.out] at this;exact this,hbr⟩
end Go.Proofs.YtalhdalinpdanaaGreatDoor.scan
end
