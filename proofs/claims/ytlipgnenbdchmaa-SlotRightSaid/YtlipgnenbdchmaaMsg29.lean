/-
  DiskImpl9
-/
import Derived.Test.YtlipgnenbdchmaaMsg28
set_option linter.unusedVariables false
set_option linter.unusedSimpArgs false
namespace Go.Proofs.Ytlipgnenbdchmaa.disk
set_option maxRecDepth 20000
open Go.RowKit
theorem op_cut (d:DiskD) (nm:ByteArray) (nn:Int) :
  (foundE d nm≠0∧cutD d nm nn=(d,foundE d nm)) ∨
  ∃ f,foundE d nm=0∧rightB d=true∧look nm d.files=some f∧oldOf nm d.files=f ∧ -1≤d.fuse ∧
   (((nn < 0∨(f.data.length:Int) < nn)∧cutD d nm nn=(d,1)) ∨
    (0≤nn∧nn≤(f.data.length:Int)∧d.fuse=0∧spentD d.fuse d.down=((0,true),9)∧cutD d nm nn=(⟨d.files,d.room,0,true⟩,9)) ∨
    ∃ f2,0≤nn∧nn≤(f.data.length:Int)∧d.fuse≠0∧spentD d.fuse d.down=((f2,d.down),0)∧cutD d nm nn=(⟨cutF d.files nm nn,d.room,f2,d.down⟩,0)):=by
 rcases op_no d nm (cutF d.files nm nn) with ⟨h1,h2⟩ | ⟨f,h1,hrt,hlk,hold,hname,hfz,h2⟩
 ·refine .inl ⟨h1,?_⟩
  by_cases h:firstE d nm nm=0
  ·have h3:foundE d nm=noE d.files nm:=by unfold foundE;rw [if_neg (by simpa using h)]
   have h4:look nm d.files=none:=by
    cases e:look nm d.files with
    |none=>rfl
    |some f=>exfalso;apply h1;rw [h3];unfold noE;rw [if_neg (by rw [e];simp)]
   have h5:cutE d.files nm nn=foundE d nm:=by rw [h3];unfold cutE noE;rw [if_pos h4,if_pos h4]
   exact op_pre h h5 h1
  ·have h3:foundE d nm=firstE d nm nm:=by unfold foundE;rw [if_pos h]
   rw [h3];exact op_first rfl h
 ·have h:firstE d nm nm=0:=by
   by_cases h:firstE d nm nm=0
   ·exact h
   ·unfold foundE at h1;rw [if_pos h] at h1;exact h1
  refine .inr ⟨f,h1,hrt,hlk,hold,hfz,?_⟩
  by_cases hb:nn < 0∨(f.data.length:Int) < nn
  ·exact .inl ⟨hb,op_pre h (by unfold cutE;rw [if_neg (by rw [hlk];simp),hold,if_pos hb]) (by simp)⟩
  ·have h5:cutE d.files nm nn=0:=by unfold cutE;rw [if_neg (by rw [hlk];simp),hold,if_neg hb]
   rcases h2 with ⟨hz,hsp,_⟩ | ⟨f2,hz,hsp,h6⟩
   ·exact .inr (.inl ⟨by omega,by omega,hz,hsp,op_down h h5 hz⟩)
   ·refine .inr (.inr ⟨f2,by omega,by omega,hz,hsp,?_⟩)
    have e:=op_done (d:=d) (a:=nm) (b:=nm) (fs:=cutF d.files nm nn) (app:=false) h h5 hz rfl
    have h7:noE d.files nm=0:=by unfold noE;rw [if_neg (by rw [hlk];simp)]
    have e2:=op_done (d:=d) (a:=nm) (b:=nm) (fs:=cutF d.files nm nn) (app:=false) h h7 hz rfl
    rw [h6] at e2
    show opD d nm nm (cutE d.files nm nn) (cutF d.files nm nn) false=_
    rw [e,← e2]
set_option maxHeartbeats 8000000 in
theorem dcut (A:Option Addr) (n c:Nat) (room fuse:Int) (down:Bool) (nm:ByteArray) (nn:Int) (fs:List FileD) (r:DiskD × Int) (S:Nat→Prop) (w:World) (hS:∀ b,S b→b < w.heap.size) (hf:FilesIn w S A fs) (hn:fs.length=n) (hnc:n≤c) (hcm:c≤maxLen) (hr:inI room) (hfu:inI fuse) (hsh:shortB fs=true) (hnm:nm.size≤100) (hnn:inI nn) (hv:cutD ⟨fs,room,fuse,down⟩ nm nn=r) :
  Calls Try.prog 49 #[.agg #[.slice A n c,.int .i64 room,.int .i64 fuse,.bool down],.string nm,.int .i64 nn] w (RetOp S w r):=by
 have HCP:=Lib.hid (dcopy_fr A n c room fuse down fs S w hS hf hn hnc hcm hsh)
 obtain ⟨x,hx⟩:∃ x,foundE ⟨fs,room,fuse,down⟩ nm=x:=⟨_,rfl⟩
 obtain ⟨p,hp⟩:∃ p,(if x=0 then placeN nm fs else 0)=p:=⟨_,rfl⟩
 have HFD:=Lib.hid (found_fr n room fuse down nm fs p x w hn hr hfu hsh hnm hx hp)
 have HN:=Lib.hid hn
 have hn70:n≤70:=by rw [← hn];exact (used_short hsh).2
 unfold inI at hnn
 rcases op_cut ⟨fs,room,fuse,down⟩ nm nn with ⟨h1,h2⟩ | ⟨f,h1,hrt,hlk,hold,hfz,h2⟩
 ·have HR2:Hid (r=(⟨fs,room,fuse,down⟩,x)):=Lib.hid (by rw [← hv,← hx];exact h2)
  have hx1:(x != 0)=true:=by rw [← hx];simpa using h1
  clear hf hn hnc hcm hsh hx hp hv h1 hS hnm h2
  go_enter Try.func49,Try.ntmps49
  go_wp2_with (first
   |((with_reducible refine HCP.out.mono ?_);rintro e w1 ⟨A1,c1,S1,rfl,HO1,HAP,HS1,F1⟩;obtain ⟨b0,b1,b2,b3,q0,q1,q2,q3,bf0,bf1,bf2,bf3,qf0,qf1,qf2,qf3⟩:=F1.out.cells;have F2:=Lib.hid (F1.out.setBox (.slice A1 n c1) (.int .i64 room) (.int .i64 fuse) (.bool down)))
   |((with_reducible refine (HFD.out _ _ _ _ _ _ _ _ _ _ _ _ _ F2.out HO1.out HS1.out).mono ?_);rintro e w2 ⟨rfl,hg2⟩;have F3:=Lib.hid (F2.out.below hg2);obtain ⟨bb0,bb1,bb2,bb3,qq0,qq1,qq2,qq3,bbf0,bbf1,bbf2,bbf3,qqf0,qqf1,qqf2,qqf3⟩:=F3.out.cells))
  refine bodyPost_ret (v:=.tuple #[.agg #[.slice A1 n c1,.int .i64 room,.int .i64 fuse,.bool down],.int .i64 x]) (by simp [results,Try.results49,go_sem,qq0,qq1,qq2,qq3]) rfl ?_
  rw [HR2.out]
  have F4:=F3.out.setRes (.slice A1 n c1) (.int .i64 room) (.int .i64 fuse) (.bool down)
  exact F4.ret (F4.own HO1.out (Nat.le_refl _) HS1.out) (by omega) (fun b hb=>by have:=HS1.out b hb;have:=F4.size;omega) _ _ _ _
 ·obtain rfl:0=x:=by rw [← hx,h1]
  have hrow:Row fs:=((right_iff _).1 hrt).2.2.2.2.1
  have hpl:=place_at hrow hlk
  have hpp:placeN nm fs=p:=by rw [← hp];simp
  rw [hpp] at hpl
  have hpn:p < n:=by rw [← hn];exact (List.getElem?_eq_some_iff.1 hpl).1
  have hfl:f.data.length≤70000:=by have:=used_mem (List.mem_of_getElem? hpl);have:=(used_short hsh).1;omega
  have HPL:=Lib.hid hpl
  have hso:=((file_iff f).1 ((right_files hrt).2.1 f (List.mem_of_getElem? hpl))).2
  rcases h2 with ⟨hb,h2⟩ | ⟨hb1,hb2,hz,hsp,h2⟩ | ⟨f2,hb1,hb2,hz,hsp,h2⟩
  ·have HR2:Hid (r=(⟨fs,room,fuse,down⟩,1)):=Lib.hid (by rw [← hv];exact h2)
   clear hf hn hnc hcm hsh hx hp hv h1 hS hnm h2 hrt hlk hold hrow hpl hpp hso
   have hcase:nn < 0∨(0≤nn∧(f.data.length:Int) < nn):=by omega
   clear hb
   rcases hcase with hb | ⟨hb,hb2⟩
   all_goals
    go_enter Try.func49,Try.ntmps49
    go_wp2_with (first
     |((with_reducible refine HCP.out.mono ?_);rintro e w1 ⟨A1,c1,S1,rfl,HO1,HAP,HS1,F1⟩;have hc63:=HO1.out.cap.2;have hc62:=HO1.out.cap.1;unfold maxLen at hc63;obtain ⟨g,cur,rfl,hgb,hgw,EG,hcs,hSg,HRW⟩:=own_some HO1.out (by omega);obtain ⟨b0,b1,b2,b3,q0,q1,q2,q3,bf0,bf1,bf2,bf3,qf0,qf1,qf2,qf3⟩:=F1.out.cells;have F2:=Lib.hid (F1.out.setBox (.slice (some ⟨g,0,none⟩) n c1) (.int .i64 room) (.int .i64 fuse) (.bool down)))
     |((with_reducible refine (HFD.out _ _ _ _ _ _ _ _ _ _ _ _ _ F2.out HO1.out HS1.out).mono ?_);rintro e w2 ⟨rfl,hg2⟩;have F3:=Lib.hid (F2.out.below hg2);obtain ⟨bb0,bb1,bb2,bb3,qq0,qq1,qq2,qq3,bbf0,bbf1,bbf2,bbf3,qqf0,qqf1,qqf2,qqf3⟩:=F3.out.cells;obtain ⟨Ad,nd,cd,x0,x1,x2,x3,x4,x5,x6,x7,x8⟩:=HRW.out.at_ HPL.out;have x6':=x6.out;obtain rfl:nd=f.data.length:=x6'.symm;have EG3:=Lib.hid ((F3.out.same g hgb hgw).trans EG.out);obtain ⟨z1,zf1⟩:=block_cell EG3.out (p * 3+1) _ x1;clear x6'))
    refine bodyPost_ret (v:=.tuple #[.agg #[.slice (some ⟨g,0,none⟩) n c1,.int .i64 room,.int .i64 fuse,.bool down],.int .i64 1]) (by simp [results,Try.results49,go_sem,qq0,qq1,qq2,qq3]) rfl ?_
    rw [HR2.out]
    have F4:=F3.out.setRes (.slice (some ⟨g,0,none⟩) n c1) (.int .i64 room) (.int .i64 fuse) (.bool down)
    exact F4.ret (F4.own HO1.out (Nat.le_refl _) HS1.out) (by omega) (fun b hb=>by have:=HS1.out b hb;have:=F4.size;omega) _ _ _ _
  ·have HR2:Hid (r=(⟨fs,room,0,true⟩,9)):=Lib.hid (by rw [← hv];exact h2)
   have HSP:Hid (∀ A1 c1 W,Calls Try.prog 54 #[.agg #[.slice A1 n c1,.int .i64 room,.int .i64 fuse,.bool down]] W fun e w'=>e = .returned (.tuple #[.agg #[.slice A1 n c1,.int .i64 room,.int .i64 0,.bool true],.int .i64 9])∧Below W.heap.size W w') :=
    Lib.hid (fun A1 c1 W=>dspent A1 n c1 room fuse down 0 true 9 W hfu hfz hsp)
   clear hf hn hnc hcm hsh hx hp hv h1 hS hnm h2 hz hsp hrt hlk hold hrow hpl hpp hso
   go_enter Try.func49,Try.ntmps49
   go_wp2_with (first
    |((with_reducible refine HCP.out.mono ?_);rintro e w1 ⟨A1,c1,S1,rfl,HO1,HAP,HS1,F1⟩;have hc63:=HO1.out.cap.2;have hc62:=HO1.out.cap.1;unfold maxLen at hc63;obtain ⟨g,cur,rfl,hgb,hgw,EG,hcs,hSg,HRW⟩:=own_some HO1.out (by omega);obtain ⟨b0,b1,b2,b3,q0,q1,q2,q3,bf0,bf1,bf2,bf3,qf0,qf1,qf2,qf3⟩:=F1.out.cells;have F2:=Lib.hid (F1.out.setBox (.slice (some ⟨g,0,none⟩) n c1) (.int .i64 room) (.int .i64 fuse) (.bool down)))
    |((with_reducible refine (HFD.out _ _ _ _ _ _ _ _ _ _ _ _ _ F2.out HO1.out HS1.out).mono ?_);rintro e w2 ⟨rfl,hg2⟩;have F3:=Lib.hid (F2.out.below hg2);obtain ⟨bb0,bb1,bb2,bb3,qq0,qq1,qq2,qq3,bbf0,bbf1,bbf2,bbf3,qqf0,qqf1,qqf2,qqf3⟩:=F3.out.cells;obtain ⟨Ad,nd,cd,x0,x1,x2,x3,x4,x5,x6,x7,x8⟩:=HRW.out.at_ HPL.out;have x6':=x6.out;obtain rfl:nd=f.data.length:=x6'.symm;have EG3:=Lib.hid ((F3.out.same g hgb hgw).trans EG.out);obtain ⟨z1,zf1⟩:=block_cell EG3.out (p * 3+1) _ x1;clear x6')
    |((with_reducible refine (HSP.out _ _ _).mono ?_);rintro e w4 ⟨rfl,hg4⟩;have F4:=Lib.hid (F3.out.below hg4);obtain ⟨cb0,cb1,cb2,cb3,cq0,cq1,cq2,cq3,cbf0,cbf1,cbf2,cbf3,cqf0,cqf1,cqf2,cqf3⟩:=F4.out.cells))
   refine bodyPost_ret (v:=.tuple #[.agg #[.slice (some ⟨g,0,none⟩) n c1,.int .i64 room,.int .i64 0,.bool true],.int .i64 9]) (by simp [results,Try.results49,go_sem,cq0,cq1,cq2,cq3]) rfl ?_
   rw [HR2.out]
   have F5:=(F4.out.setBox (.slice (some ⟨g,0,none⟩) n c1) (.int .i64 room) (.int .i64 0) (.bool true)).setRes (.slice (some ⟨g,0,none⟩) n c1) (.int .i64 room) (.int .i64 0) (.bool true)
   exact F5.ret (F5.own HO1.out (Nat.le_refl _) HS1.out) (by omega) (fun b hb=>by have:=HS1.out b hb;have:=F5.size;omega) _ _ _ _
  ·obtain ⟨m,rfl⟩:∃ m:Nat,nn=(m:Int):=⟨nn.toNat,by omega⟩
   obtain ⟨s,hs⟩:∃ s:Nat,f.sure=(s:Int):=⟨f.sure.toNat,by omega⟩
   obtain ⟨t,ht⟩:∃ t:Nat,(if m < s then m else s)=t:=⟨_,rfl⟩
   have HCUT:Hid (cutF fs nm (m:Int)=fs.set p { f with data:=f.data.take m,sure:=(t:Int) }):=Lib.hid (by
    unfold cutF
    rw [hold,hs]
    have e:(if (m:Int) < (s:Int) then (m:Int) else (s:Int))=(t:Int):=by rw [← ht];split<;>split<;>omega
    rw [e]
    simp only [Int.toNat_natCast]
    exact with_set hrow hpl rfl)
   have HR2:Hid (r=(⟨fs.set p { f with data:=f.data.take m,sure:=(t:Int) },room,f2,down⟩,0)):=Lib.hid (by rw [← hv,← HCUT.out];exact h2)
   have HSP:Hid (∀ A1 c1 W,Calls Try.prog 54 #[.agg #[.slice A1 n c1,.int .i64 room,.int .i64 fuse,.bool down]] W fun e w'=>e = .returned (.tuple #[.agg #[.slice A1 n c1,.int .i64 room,.int .i64 f2,.bool down],.int .i64 0])∧Below W.heap.size W w') :=
    Lib.hid (fun A1 c1 W=>dspent A1 n c1 room fuse down f2 down 0 W hfu hfz hsp)
   have HS:=Lib.hid hs
   have hss:s≤70000:=by omega
   clear hf hn hnc hcm hsh hx hp hv h1 hS hnm h2 hz hsp hrt hlk hold hrow hpl hpp hso hs
   go_enter Try.func49,Try.ntmps49
   go_wp2_with (first
    |((with_reducible refine HCP.out.mono ?_);rintro e w1 ⟨A1,c1,S1,rfl,HO1,HAP,HS1,F1⟩;have hc63:=HO1.out.cap.2;have hc62:=HO1.out.cap.1;unfold maxLen at hc63;obtain ⟨g,cur,rfl,hgb,hgw,EG,hcs,hSg,HRW⟩:=own_some HO1.out (by omega);obtain ⟨b0,b1,b2,b3,q0,q1,q2,q3,bf0,bf1,bf2,bf3,qf0,qf1,qf2,qf3⟩:=F1.out.cells;have F2:=Lib.hid (F1.out.setBox (.slice (some ⟨g,0,none⟩) n c1) (.int .i64 room) (.int .i64 fuse) (.bool down)))
    |((with_reducible refine (HFD.out _ _ _ _ _ _ _ _ _ _ _ _ _ F2.out HO1.out HS1.out).mono ?_);rintro e w2 ⟨rfl,hg2⟩;have F3:=Lib.hid (F2.out.below hg2);obtain ⟨bb0,bb1,bb2,bb3,qq0,qq1,qq2,qq3,bbf0,bbf1,bbf2,bbf3,qqf0,qqf1,qqf2,qqf3⟩:=F3.out.cells;obtain ⟨Ad,nd,cd,x0,x1,x2,x3,x4,x5,x6,x7,x8⟩:=HRW.out.at_ HPL.out;have x6':=x6.out;obtain rfl:nd=f.data.length:=x6'.symm;have EG3:=Lib.hid ((F3.out.same g hgb hgw).trans EG.out);obtain ⟨z1,zf1⟩:=block_cell EG3.out (p * 3+1) _ x1;clear x6')
    |((with_reducible refine (HSP.out _ _ _).mono ?_);rintro e w4 ⟨rfl,hg4⟩;have F4:=Lib.hid (F3.out.below hg4);obtain ⟨cb0,cb1,cb2,cb3,cq0,cq1,cq2,cq3,cbf0,cbf1,cbf2,cbf3,cqf0,cqf1,cqf2,cqf3⟩:=F4.out.cells))
   have F5:=Lib.hid (F4.out.setBox (.slice (some ⟨g,0,none⟩) n c1) (.int .i64 room) (.int .i64 f2) (.bool down))
   have EG5:=Lib.hid ((F5.out.same g hgb hgw).trans EG.out)
   have HO5:=Lib.hid (F5.out.own HO1.out (Nat.le_refl _) HS1.out)
   obtain ⟨db0,db1,db2,db3,dq0,dq1,dq2,dq3,dbf0,dbf1,dbf2,dbf3,dqf0,dqf1,dqf2,dqf3⟩:=F5.out.cells
   obtain ⟨y1,yf1⟩:=block_cell EG5.out (p * 3+1) _ x1
   rw [HS.out] at x2
   obtain ⟨y2,yf2⟩:=block_cell EG5.out (p * 3+2) _ x2
   have hsz5:=F5.out.size
   have HX0:=Lib.hid x0
   have HX5:=Lib.hid x5
   have hc3:p * 3+2 < cur.size:=by rw [hcs];omega
   unfold maxLen at x8
   have hcd:(m:Int)≤(cd:Int):=by omega
   have hcd2:m≤cd:=by omega
   have hne0:w.heap.size≠g:=by omega
   have hne1:w.heap.size+1≠g:=by omega
   clear x0 x1 x2 x5 z1 zf1 cb0 cb1 cb2 cb3 cq0 cq1 cq2 cq3 cbf0 cbf1 cbf2 cbf3 cqf0 cqf1 cqf2 cqf3 bb0 bb1 bb2 bb3 qq0 qq1 qq2 qq3 bbf0 bbf1 bbf2 bbf3 qqf0 qqf1 qqf2 qqf3 b0 b1 b2 b3 q0 q1 q2 q3 bf0 bf1 bf2 bf3 qf0 qf1 qf2 qf3 hg4 hg2 HFD HSP HCP
   generalize ((((w4.setCell ⟨w.heap.size,0,none⟩ (.slice (some ⟨g,0,none⟩) n c1)).setCell ⟨w.heap.size,1,none⟩ (.int .i64 room)).setCell ⟨w.heap.size,2,none⟩ (.int .i64 f2)).setCell ⟨w.heap.size,3,none⟩ (.bool down))=w5 at *
   go_still_tail 13,(by kernel_rfl)
   change wpList _ _ _ _ _ w5.drew
   go_wp2
   have F6:=Lib.hid (F5.out.setOwn (g:=g) (i:=p * 3+1) hgb (.slice Ad m cd)).drew.rebase
   have e6:=heap_setCell_same w5 g (p * 3+1) _ _ (.slice Ad m cd) EG5.out
   have EG6:Hid ((w5.setCell ⟨g,p * 3+1,none⟩ (.slice Ad m cd)).drew.heap[g]?=some (.cells (cur.setIfInBounds (p * 3+1) (.slice Ad m cd)) 51 (0,0))):=Lib.hid e6
   obtain ⟨eb0,eb1,eb2,eb3,eq0,eq1,eq2,eq3,ebf0,ebf1,ebf2,ebf3,eqf0,eqf1,eqf2,eqf3⟩:=F6.out.cells
   obtain ⟨v1,vf1⟩:=block_cell EG6.out (p * 3+1) (.slice Ad m cd) (set_cell_self _ (by omega))
   obtain ⟨v2,vf2⟩:=block_cell EG6.out (p * 3+2) (.int .i64 (s:Int)) (by rw [set_cell _ (by omega)];exact (cell_of_row w5 g _ _ _ _ EG5.out).symm.trans y2)
   have HAL:Hid (∀ b,S1 b→(w5.setCell ⟨g,p * 3+1,none⟩ (.slice Ad m cd)).drew.heap[b]?=w1.heap[b]?):=Lib.hid (fun b hSb=>by
    have hne:b≠g:=fun e=>hSg (e▸hSb)
    exact (Below.heap_setCell _ _ _ _ hne).trans (F5.out.same b (HS1.out b hSb).1 (HS1.out b hSb).2))
   have hsz6:(w5.setCell ⟨g,p * 3+1,none⟩ (.slice Ad m cd)).drew.heap.size=w5.heap.size:=by simp [World.setCell]
   clear db0 db1 db2 db3 dq0 dq1 dq2 dq3 dbf0 dbf1 dbf2 dbf3 dqf0 dqf1 dqf2 dqf3 y1 yf1 y2 yf2 e6
   generalize hw6:(w5.setCell ⟨g,p * 3+1,none⟩ (.slice Ad m cd)).drew=w6 at *
   clear hw6
   have hmin:(m < s∧m=t)∨(s≤m∧s=t):=by
    by_cases h:m < s
    ·rw [if_pos h] at ht;exact .inl ⟨h,ht⟩
    ·rw [if_neg h] at ht;exact .inr ⟨by omega,ht⟩
   clear ht
   have HFIN:Hid (OwnF (w6.drew.setCell ⟨g,p * 3+2,none⟩ (.int .i64 (t:Int))) (w.heap.size+2) 51 S1 (some ⟨g,0,none⟩) n c1 (fs.set p { f with data:=f.data.take m,sure:=(t:Int) })):=Lib.hid (by
    have hAL:∀ b,S1 b→(w6.drew.setCell ⟨g,p * 3+2,none⟩ (.int .i64 (t:Int))).heap[b]?=w1.heap[b]?:=fun b hSb=>by
     have hne:b≠g:=fun e=>hSg (e▸hSb)
     exact (Below.heap_setCell _ _ _ _ hne).trans (HAL.out b hSb)
    refine own_set (v:=.slice Ad m cd) HN.out hc62 hc63 hgb HRW.out hSg (heap_setCell_same w6.drew g _ _ _ _ EG6.out) (by simpa using hcs) (fun b o hSb=>World.cell?_of_block (hAL b hSb)) (fun i hi=>by rw [set_cell _ (by omega),set_cell _ (by omega)]) ⟨?_,?_,?_,x3,?_⟩ ⟨Ad,m,cd,rfl,?_,?_,hcd2,by unfold maxLen;omega⟩
    ·rw [set_cell _ (by omega),set_cell _ (by omega)];exact HX0.out
    ·rw [set_cell _ (by omega)];exact set_cell_self _ (by omega)
    ·exact set_cell_self _ (by simp;omega)
    ·show (Lit.int .i64 (t:Int)).wf=true
     exact WalkArith.wf_i64 (by omega)
    ·exact IntsIn.keep (bys_take' HX5.out m) (fun b o hSb=>World.cell?_of_block (hAL b hSb)) (fun _ h=>h)
    ·show (f.data.take m).length=m
     rw [List.length_take];omega)
   have F7:=Lib.hid ((F6.out.drew.setOwn (g:=g) (i:=p * 3+2) hgb (.int .i64 (t:Int))).setRes (.slice (some ⟨g,0,none⟩) n c1) (.int .i64 room) (.int .i64 f2) (.bool down))
   rcases hmin with ⟨hmin,rfl⟩ | ⟨hmin,rfl⟩
   all_goals
    go_still_tail 13,(by kernel_rfl)
    change wpList _ _ _ _ _ w6.drew
    go_wp2
    refine bodyPost_ret (v:=.tuple #[.agg #[.slice (some ⟨g,0,none⟩) n c1,.int .i64 room,.int .i64 f2,.bool down],.int .i64 0]) (by simp [results,Try.results49,go_sem,eq0,eq1,eq2,eq3]) rfl ?_
    rw [HR2.out]
    exact F7.out.ret (F7.out.own HFIN.out (Nat.le_refl _) (fun b hb=>by have:=HS1.out b hb;simp [World.setCell];omega)) (by omega) (fun b hb=>by have:=HS1.out b hb;have:=F7.out.size;simp [World.setCell] at this ⊢;omega) _ _ _ _
end Go.Proofs.Ytlipgnenbdchmaa.disk
