/-
  DiskImpl7, DiskImpl8
-/
import Derived.Test.YtlipgnenbdchmaaMsg26
import Derived.Test.YtlipgnenbdchmaaMsg20
import Derived.Test.YtlipgnenbdchmaaMsg27
import Derived.StillTailTactics
set_option linter.unusedVariables false
set_option linter.unusedSimpArgs false
section
namespace Go.Proofs.Ytlipgnenbdchmaa.disk
set_option maxRecDepth 20000
open Go.RowKit
theorem dcopy_fr (A:Option Addr) (n c:Nat) (room fuse:Int) (down:Bool) (fs:List FileD) (S:Nat→Prop) (w:World) (hS:∀ b,S b→b < w.heap.size) (hf:FilesIn w S A fs) (hn:fs.length=n) (hnc:n≤c) (hcm:c≤maxLen) (hsh:shortB fs=true) :
  Calls Try.prog 39 #[.agg #[.slice A n c,.int .i64 room,.int .i64 fuse,.bool down]] ((w.alloc (.cells #[.slice A n c,.int .i64 room,.int .i64 fuse,.bool down] 24)).alloc (.cells #[.slice none 0 0,.int .i64 0,.int .i64 0,.bool false] 24)) fun e w1 =>
   ∃ A1 c1,∃ S1:Nat→Prop,e = .returned (.agg #[.slice A1 n c1,.int .i64 room,.int .i64 fuse,.bool down])∧Hid (OwnF w1 (w.heap.size+2) 51 S1 A1 n c1 fs)∧Hid (Apart w1 (w.heap.size+2) 5 S1 A1 fs)∧Hid (∀ b,S1 b→w.heap.size+2≤b∧b < w1.heap.size) ∧
    Hid (DFr 24 w w1 w1 (.slice A n c) (.int .i64 room) (.int .i64 fuse) (.bool down) (.slice none 0 0) (.int .i64 0) (.int .i64 0) (.bool false)):=by
 obtain ⟨k0,k1⟩:=two_blocks w #[.slice A n c,.int .i64 room,.int .i64 fuse,.bool down] #[.slice none 0 0,.int .i64 0,.int .i64 0,.bool false] 24 24
 have hB:∀ o1 o2,Below w.heap.size w ((w.alloc o1).alloc o2):=fun o1 o2=>((Below.refl _ _).alloc (Nat.le_refl _) o1).alloc (by simp) o2
 have hus:=used_short hsh
 have h:=dcopied A n c room fuse down fs S _ (fun b hb=>by have:=hS b hb;rw [size_two];omega) (hf.below hS (hB (.cells #[.slice A n c,.int .i64 room,.int .i64 fuse,.bool down] 24) (.cells #[.slice none 0 0,.int .i64 0,.int .i64 0,.bool false] 24))) hn hnc hcm (by omega) (fun f hf=>by have:=used_mem hf;omega)
 refine h.mono fun e w1 ⟨A1,c1,S1,h1,h2,h3,h4,h5⟩=>?_
 rw [size_two] at h2 h3
 have h4':=h4.out
 rw [size_two] at h4' h5
 have hsz:=h5.size
 rw [size_two] at hsz
 exact ⟨A1,c1,S1,h1,Lib.hid h2,Lib.hid h3,Lib.hid h4',Lib.hid ⟨(hB _ _).trans (h5.mono (by omega)),(h5.block _ (by omega)).trans k0,(h5.block _ (by omega)).trans k1,Nat.le_refl _,hsz,fun _ _ _=>rfl⟩⟩
theorem fr_reads {T TF:TypeId} {w w1 W:World} {d0 d1 d2 d3 r0 r1 r2 r3:Value} {A:Option Addr} {n c:Nat} {fs:List FileD} {S1:Nat→Prop} (h:DFr T w w1 W d0 d1 d2 d3 r0 r1 r2 r3) (ho:OwnF w1 (w.heap.size+2) TF S1 A n c fs) (hS:∀ b,S1 b→w.heap.size+2≤b∧b < w1.heap.size):FilesIn W (Lt W.heap.size) A fs :=
 (h.own ho (Nat.le_refl _) hS).all (fun b hb=>by have:=hS b hb;have:=h.size;omega)
end Go.Proofs.Ytlipgnenbdchmaa.disk
end
section
namespace Go.Proofs.Ytlipgnenbdchmaa.disk
set_option maxRecDepth 20000
open Go.RowKit
theorem found_fr (n:Nat) (room fuse:Int) (down:Bool) (nm:ByteArray) (fs:List FileD) (p:Nat) (x:Int) (w:World) (hn:fs.length=n) (hr:inI room) (hfu:inI fuse) (hsh:shortB fs=true) (hnm:nm.size≤100) (hx:foundE ⟨fs,room,fuse,down⟩ nm=x) (hp:(if x=0 then placeN nm fs else 0)=p) :
  ∀ (A1:Option Addr) (c1:Nat) (S1:Nat→Prop) (w1 W:World) (d0 d1 d2 d3 r0 r1 r2 r3:Value),DFr 24 w w1 W d0 d1 d2 d3 r0 r1 r2 r3→OwnF w1 (w.heap.size+2) 51 S1 A1 n c1 fs→(∀ b,S1 b→w.heap.size+2≤b∧b < w1.heap.size) →
   Calls Try.prog 42 #[.agg #[.slice A1 n c1,.int .i64 room,.int .i64 fuse,.bool down],.string nm] W fun e w'=>e = .returned (.tuple #[.int .i64 (p:Nat),.int .i64 x])∧Below W.heap.size W w' :=
 fun A1 c1 S1 w1 W d0 d1 d2 d3 r0 r1 r2 r3 h ho hs=>dfound A1 n c1 room fuse down nm fs p x (Lt W.heap.size) W (fun _ h=>h) (fr_reads h ho hs) hn ho.cap.1 ho.cap.2 hr hfu (by have:=(used_short hsh).1;omega) (by unfold maxLen;omega) hx hp
theorem own_some {w:World} {base n c:Nat} {T:TypeId} {S:Nat→Prop} {A:Option Addr} {fs:List FileD} (h:OwnF w base T S A n c fs) (h0:0 < n) :
  ∃ g cur,A=some ⟨g,0,none⟩∧base≤g∧g < w.heap.size∧Hid (w.heap[g]?=some (.cells cur T (0,0)))∧cur.size=c * 3∧¬ S g∧Hid (RowAt w S cur fs):=by
 rcases h.2.2.2 with ⟨_,h1,_⟩ | ⟨g,cur,h1,h2,h3,h4,h5,h6⟩
 ·omega
 ·exact ⟨g,cur,h1,h2,(h.block g h1).2,Lib.hid h3,h4,h5,Lib.hid h6⟩
theorem set_row {fs:List FileD} (h:Row fs) {p:Nat} {f f' : FileD} (hf:fs[p]?=some f) (e:f'.name=f.name):Row (fs.set p f'):=by
 refine List.pairwise_iff_getElem.2 fun i j hi hj hij=>?_
 rw [List.length_set] at hi hj
 have hfp:=(List.getElem?_eq_some_iff.1 hf)
 rw [List.getElem_set,List.getElem_set]
 have hh:=List.pairwise_iff_getElem.1 h i j hi hj hij
 by_cases h1:p=i
 ·subst h1
  rw [if_pos rfl,if_neg (by omega),e]
  rw [hfp.2] at hh
  exact hh
 ·rw [if_neg h1]
  by_cases h2:p=j
  ·subst h2
   rw [if_pos rfl,e]
   rw [hfp.2] at hh
   exact hh
  ·rw [if_neg h2];exact hh
theorem with_set {fs:List FileD} (h:Row fs) {p:Nat} {f f' : FileD} (hf:fs[p]?=some f) (e:f'.name=f.name):withF f' fs=fs.set p f':=by
 refine Row.ext (row_with f' h) (set_row h hf e) fun g=>?_
 rw [mem_with h]
 have hp:=(List.getElem?_eq_some_iff.1 hf).1
 constructor
 ·rintro (rfl | ⟨h1,h2⟩)
  ·exact List.mem_iff_getElem.2 ⟨p,by rw [List.length_set];exact hp,by rw [List.getElem_set_self]⟩
  ·obtain ⟨j,hj,rfl⟩:=List.getElem_of_mem h1
   have hne:p≠j:=fun e2=>h2 (by subst e2;rw [(List.getElem?_eq_some_iff.1 hf).2,e])
   exact List.mem_iff_getElem.2 ⟨j,by rw [List.length_set];exact hj,by rw [List.getElem_set_ne hne]⟩
 ·intro hg
  obtain ⟨j,hj,rfl⟩:=List.getElem_of_mem hg
  rw [List.length_set] at hj
  by_cases e2:p=j
  ·subst e2;exact .inl (by rw [List.getElem_set_self])
  ·rw [List.getElem_set_ne e2]
   refine .inr ⟨List.getElem_mem hj,fun e3=>?_⟩
   have hfj:=List.getElem?_eq_getElem hj
   have h3:nlt f.name f.name:=by
    rcases Nat.lt_or_gt_of_ne e2 with h4 | h4
    ·have:=row_lt h hf hfj h4;rwa [e3,e] at this
    ·have:=row_lt h hfj hf h4;rwa [e3,e] at this
   exact nlt_irrefl _ h3
theorem op_no (d:DiskD) (nm:ByteArray) (fs:List FileD) :
  (foundE d nm≠0∧opD d nm nm (noE d.files nm) fs false=(d,foundE d nm)) ∨
  ∃ f,foundE d nm=0∧rightB d=true∧look nm d.files=some f∧oldOf nm d.files=f∧f.name=nm ∧ -1≤d.fuse ∧
   ((d.fuse=0∧spentD d.fuse d.down=((0,true),9)∧opD d nm nm (noE d.files nm) fs false=(⟨d.files,d.room,0,true⟩,9)) ∨
    ∃ f2,d.fuse≠0∧spentD d.fuse d.down=((f2,d.down),0)∧opD d nm nm (noE d.files nm) fs false=(⟨fs,d.room,f2,d.down⟩,0)):=by
 by_cases h:firstE d nm nm=0
 ·have hr:=(first_zero.1 h).1
  have hfz:=((right_iff d).1 hr).2.1
  cases e:look nm d.files with
  |none =>
   have h1:noE d.files nm=7:=by unfold noE;rw [if_pos e]
   have h2:foundE d nm=7:=by unfold foundE;rw [if_neg (by simpa using h),h1]
   rw [h2]
   exact .inl ⟨by simp,op_pre h h1 (by simp)⟩
  |some f =>
   have h1:noE d.files nm=0:=by unfold noE;rw [if_neg (by rw [e];simp)]
   have h2:foundE d nm=0:=by unfold foundE;rw [if_neg (by simpa using h),h1]
   refine .inr ⟨f,h2,hr,rfl,by unfold oldOf;rw [e];rfl,(look_some e).2,hfz,?_⟩
   by_cases hz:d.fuse=0
   ·exact .inl ⟨hz,by unfold spentD;rw [if_pos hz],op_down h h1 hz⟩
   ·refine .inr ⟨if 0 < d.fuse then d.fuse - 1 else d.fuse,hz,?_,op_done h h1 hz rfl⟩
    unfold spentD
    rw [if_neg hz]
    by_cases h3:d.fuse = -1
    ·rw [if_pos h3,h3];rfl
    ·rw [if_neg h3,if_pos (by omega)]
 ·have h2:foundE d nm=firstE d nm nm:=by unfold foundE;rw [if_pos h]
  rw [h2]
  exact .inl ⟨h,op_first rfl h⟩
theorem own_set {W W' : World} {base n c g p:Nat} {T:TypeId} {S:Nat→Prop} {fs:List FileD} {cur cur' : Array Value} {f' : FileD} {v:Value} (hlen:fs.length=n) (hn:n≤c) (hc:c≤9223372036854775807) (hb:base≤g) (hrow:RowAt W S cur fs) (hSg:¬ S g)
  (hE:W'.heap[g]?=some (.cells cur' T (0,0))) (hcs:cur'.size=c * 3) (hal:Alike S W W') (hoff:∀ i,(i < p * 3∨p * 3+3≤i)→cur'[i]?=cur[i]?) (hk:FileCells cur' p f' v) (hd:rdData W' S v f'.data):OwnF W' base T S (some ⟨g,0,none⟩) n c (fs.set p f') :=
 ⟨by rw [List.length_set];exact hlen,hn,by unfold maxLen;omega,.inr ⟨g,cur',rfl,hb,hE,hcs,hSg,hrow.set hal hoff hk hd⟩⟩
set_option maxHeartbeats 6000000 in
theorem dsync (A:Option Addr) (n c:Nat) (room fuse:Int) (down:Bool) (nm:ByteArray) (fs:List FileD) (r:DiskD × Int) (S:Nat→Prop) (w:World) (hS:∀ b,S b→b < w.heap.size) (hf:FilesIn w S A fs) (hn:fs.length=n) (hnc:n≤c) (hcm:c≤maxLen) (hr:inI room) (hfu:inI fuse) (hsh:shortB fs=true) (hnm:nm.size≤100) (hv:syncD ⟨fs,room,fuse,down⟩ nm=r) :
  Calls Try.prog 34 #[.agg #[.slice A n c,.int .i64 room,.int .i64 fuse,.bool down],.string nm] w (RetOp S w r):=by
 have HCP:=Lib.hid (dcopy_fr A n c room fuse down fs S w hS hf hn hnc hcm hsh)
 obtain ⟨x,hx⟩:∃ x,foundE ⟨fs,room,fuse,down⟩ nm=x:=⟨_,rfl⟩
 obtain ⟨p,hp⟩:∃ p,(if x=0 then placeN nm fs else 0)=p:=⟨_,rfl⟩
 have HFD:=Lib.hid (found_fr n room fuse down nm fs p x w hn hr hfu hsh hnm hx hp)
 have HN:=Lib.hid hn
 have hn70:n≤70:=by rw [← hn];exact (used_short hsh).2
 rcases op_no ⟨fs,room,fuse,down⟩ nm (syncF fs nm) with ⟨h1,h2⟩ | ⟨f,h1,hrt,hlk,hold,hname,hfz,h2⟩
 ·have HR2:Hid (r=(⟨fs,room,fuse,down⟩,x)):=Lib.hid (by rw [← hv,← hx];exact h2)
  have hx1:(x != 0)=true:=by rw [← hx];simpa using h1
  clear hf hn hnc hcm hsh hx hp hv h1 h2 hS hnm
  go_enter Try.func34,Try.ntmps34
  go_wp2_with (first
   |((with_reducible refine HCP.out.mono ?_);rintro e w1 ⟨A1,c1,S1,rfl,HO1,HAP,HS1,F1⟩;obtain ⟨b0,b1,b2,b3,q0,q1,q2,q3,bf0,bf1,bf2,bf3,qf0,qf1,qf2,qf3⟩:=F1.out.cells;have F2:=Lib.hid (F1.out.setBox (.slice A1 n c1) (.int .i64 room) (.int .i64 fuse) (.bool down)))
   |((with_reducible refine (HFD.out _ _ _ _ _ _ _ _ _ _ _ _ _ F2.out HO1.out HS1.out).mono ?_);rintro e w2 ⟨rfl,hg2⟩;have F3:=Lib.hid (F2.out.below hg2);obtain ⟨bb0,bb1,bb2,bb3,qq0,qq1,qq2,qq3,bbf0,bbf1,bbf2,bbf3,qqf0,qqf1,qqf2,qqf3⟩:=F3.out.cells))
  refine bodyPost_ret (v:=.tuple #[.agg #[.slice A1 n c1,.int .i64 room,.int .i64 fuse,.bool down],.int .i64 x]) (by simp [results,Try.results34,go_sem,qq0,qq1,qq2,qq3]) rfl ?_
  rw [HR2.out]
  have F4:=F3.out.setRes (.slice A1 n c1) (.int .i64 room) (.int .i64 fuse) (.bool down)
  exact F4.ret (F4.own HO1.out (Nat.le_refl _) HS1.out) (by omega) (fun b hb=>by have:=HS1.out b hb;have:=F4.size;omega) _ _ _ _
 ·obtain rfl:0=x:=by rw [← hx,h1]
  have hrow:Row fs:=((right_iff _).1 hrt).2.2.2.2.1
  have hpl:=place_at hrow hlk
  have hpp:placeN nm fs=p:=by rw [← hp];simp
  rw [hpp] at hpl
  have hpn:p < n:=by rw [← hn];exact (List.getElem?_eq_some_iff.1 hpl).1
  have hfl:f.data.length≤70000:=by have:=used_mem (List.mem_of_getElem? hpl);have:=(used_short hsh).1;omega
  rcases h2 with ⟨hz,hsp,h2⟩ | ⟨f2,hz,hsp,h2⟩
  ·have HR2:Hid (r=(⟨fs,room,0,true⟩,9)):=Lib.hid (by rw [← hv];exact h2)
   have HSP:Hid (∀ A1 c1 W,Calls Try.prog 54 #[.agg #[.slice A1 n c1,.int .i64 room,.int .i64 fuse,.bool down]] W fun e w'=>e = .returned (.tuple #[.agg #[.slice A1 n c1,.int .i64 room,.int .i64 0,.bool true],.int .i64 9])∧Below W.heap.size W w') :=
    Lib.hid (fun A1 c1 W=>dspent A1 n c1 room fuse down 0 true 9 W hfu hfz hsp)
   clear hf hn hnc hcm hsh hx hp hv h1 h2 hS hnm hz hsp hrt hlk hold hname hrow hpl hpp
   go_enter Try.func34,Try.ntmps34
   go_wp2_with (first
    |((with_reducible refine HCP.out.mono ?_);rintro e w1 ⟨A1,c1,S1,rfl,HO1,HAP,HS1,F1⟩;obtain ⟨b0,b1,b2,b3,q0,q1,q2,q3,bf0,bf1,bf2,bf3,qf0,qf1,qf2,qf3⟩:=F1.out.cells;have F2:=Lib.hid (F1.out.setBox (.slice A1 n c1) (.int .i64 room) (.int .i64 fuse) (.bool down)))
    |((with_reducible refine (HFD.out _ _ _ _ _ _ _ _ _ _ _ _ _ F2.out HO1.out HS1.out).mono ?_);rintro e w2 ⟨rfl,hg2⟩;have F3:=Lib.hid (F2.out.below hg2);obtain ⟨bb0,bb1,bb2,bb3,qq0,qq1,qq2,qq3,bbf0,bbf1,bbf2,bbf3,qqf0,qqf1,qqf2,qqf3⟩:=F3.out.cells)
    |((with_reducible refine (HSP.out _ _ _).mono ?_);rintro e w4 ⟨rfl,hg4⟩;have F4:=Lib.hid (F3.out.below hg4);obtain ⟨cb0,cb1,cb2,cb3,cq0,cq1,cq2,cq3,cbf0,cbf1,cbf2,cbf3,cqf0,cqf1,cqf2,cqf3⟩:=F4.out.cells))
   refine bodyPost_ret (v:=.tuple #[.agg #[.slice A1 n c1,.int .i64 room,.int .i64 0,.bool true],.int .i64 9]) (by simp [results,Try.results34,go_sem,cq0,cq1,cq2,cq3]) rfl ?_
   rw [HR2.out]
   have F5:=(F4.out.setBox (.slice A1 n c1) (.int .i64 room) (.int .i64 0) (.bool true)).setRes (.slice A1 n c1) (.int .i64 room) (.int .i64 0) (.bool true)
   exact F5.ret (F5.own HO1.out (Nat.le_refl _) HS1.out) (by omega) (fun b hb=>by have:=HS1.out b hb;have:=F5.size;omega) _ _ _ _
  ·have HSYN:Hid (syncF fs nm=fs.set p { f with sure:=(f.data.length:Nat) }):=Lib.hid (by unfold syncF;rw [hold];exact with_set hrow hpl rfl)
   have HR2:Hid (r=(⟨fs.set p { f with sure:=(f.data.length:Nat) },room,f2,down⟩,0)):=Lib.hid (by rw [← hv,← HSYN.out];exact h2)
   have HSP:Hid (∀ A1 c1 W,Calls Try.prog 54 #[.agg #[.slice A1 n c1,.int .i64 room,.int .i64 fuse,.bool down]] W fun e w'=>e = .returned (.tuple #[.agg #[.slice A1 n c1,.int .i64 room,.int .i64 f2,.bool down],.int .i64 0])∧Below W.heap.size W w') :=
    Lib.hid (fun A1 c1 W=>dspent A1 n c1 room fuse down f2 down 0 W hfu hfz hsp)
   have HPL:=Lib.hid hpl
   have HFL:=Lib.hid hfl
   clear hf hn hnc hcm hsh hx hp hv h1 h2 hS hnm hz hsp hrt hlk hold hname hrow hpl hpp hfl
   go_enter Try.func34,Try.ntmps34
   go_wp2_with (first
    |((with_reducible refine HCP.out.mono ?_);rintro e w1 ⟨A1,c1,S1,rfl,HO1,HAP,HS1,F1⟩;have hc63:=HO1.out.cap.2;have hc62:=HO1.out.cap.1;unfold maxLen at hc63;obtain ⟨g,cur,rfl,hgb,hgw,EG,hcs,hSg,HRW⟩:=own_some HO1.out (by omega);obtain ⟨b0,b1,b2,b3,q0,q1,q2,q3,bf0,bf1,bf2,bf3,qf0,qf1,qf2,qf3⟩:=F1.out.cells;have F2:=Lib.hid (F1.out.setBox (.slice (some ⟨g,0,none⟩) n c1) (.int .i64 room) (.int .i64 fuse) (.bool down)))
    |((with_reducible refine (HFD.out _ _ _ _ _ _ _ _ _ _ _ _ _ F2.out HO1.out HS1.out).mono ?_);rintro e w2 ⟨rfl,hg2⟩;have F3:=Lib.hid (F2.out.below hg2);obtain ⟨bb0,bb1,bb2,bb3,qq0,qq1,qq2,qq3,bbf0,bbf1,bbf2,bbf3,qqf0,qqf1,qqf2,qqf3⟩:=F3.out.cells)
    |((with_reducible refine (HSP.out _ _ _).mono ?_);rintro e w4 ⟨rfl,hg4⟩;have F4:=Lib.hid (F3.out.below hg4);obtain ⟨cb0,cb1,cb2,cb3,cq0,cq1,cq2,cq3,cbf0,cbf1,cbf2,cbf3,cqf0,cqf1,cqf2,cqf3⟩:=F4.out.cells))
   have F5:=Lib.hid (F4.out.setBox (.slice (some ⟨g,0,none⟩) n c1) (.int .i64 room) (.int .i64 f2) (.bool down))
   obtain ⟨Ad,nd,cd,x0,x1,x2,x3,x4,x5,x6,x7,x8⟩:=HRW.out.at_ HPL.out
   have EG5:=Lib.hid ((F5.out.same g hgb hgw).trans EG.out)
   have HO5:=Lib.hid (F5.out.own HO1.out (Nat.le_refl _) HS1.out)
   obtain ⟨db0,db1,db2,db3,dq0,dq1,dq2,dq3,dbf0,dbf1,dbf2,dbf3,dqf0,dqf1,dqf2,dqf3⟩:=F5.out.cells
   obtain ⟨z1,zf1⟩:=block_cell EG5.out (p * 3+1) _ x1
   obtain ⟨z2,zf2⟩:=block_cell EG5.out (p * 3+2) _ x2
   have hsz5:=F5.out.size
   have HX0:=Lib.hid x0
   have HX1:=Lib.hid x1
   have HX5:=Lib.hid x5
   have hnd:nd≤70000:=by have:=x6.out;have:=HFL.out;omega
   have hc3:p * 3+2 < cur.size:=by rw [hcs];omega
   unfold maxLen at x8
   clear x0 x1 x2 x5 cb0 cb1 cb2 cb3 cq0 cq1 cq2 cq3 cbf0 cbf1 cbf2 cbf3 cqf0 cqf1 cqf2 cqf3 bb0 bb1 bb2 bb3 qq0 qq1 qq2 qq3 bbf0 bbf1 bbf2 bbf3 qqf0 qqf1 qqf2 qqf3 b0 b1 b2 b3 q0 q1 q2 q3 bf0 bf1 bf2 bf3 qf0 qf1 qf2 qf3 hg4 hg2 HFD HSP HCP
   generalize ((((w4.setCell ⟨w.heap.size,0,none⟩ (.slice (some ⟨g,0,none⟩) n c1)).setCell ⟨w.heap.size,1,none⟩ (.int .i64 room)).setCell ⟨w.heap.size,2,none⟩ (.int .i64 f2)).setCell ⟨w.heap.size,3,none⟩ (.bool down))=w5 at *
   go_still_tail 12,(by kernel_rfl)
   change wpList _ _ _ _ _ w5.drew
   have hne0:w.heap.size≠g:=by omega
   have hne1:w.heap.size+1≠g:=by omega
   go_wp2
   refine bodyPost_ret (v:=.tuple #[.agg #[.slice (some ⟨g,0,none⟩) n c1,.int .i64 room,.int .i64 f2,.bool down],.int .i64 0]) (by simp [results,Try.results34,go_sem,dq0,dq1,dq2,dq3]) rfl ?_
   rw [HR2.out]
   have F6:=F5.out.drew.setOwn (g:=g) (i:=p * 3+2) hgb (.int .i64 (nd:Int))
   have hAL:∀ b,S1 b→(w5.drew.setCell ⟨g,p * 3+2,none⟩ (.int .i64 (nd:Int))).heap[b]?=w1.heap[b]?:=fun b hSb=>by
    have hne:b≠g:=fun e=>hSg (e▸hSb)
    exact (Below.heap_setCell _ _ _ _ hne).trans (F5.out.same b (HS1.out b hSb).1 (HS1.out b hSb).2)
   have HO6:OwnF (w5.drew.setCell ⟨g,p * 3+2,none⟩ (.int .i64 (nd:Int))) (w.heap.size+2) 51 S1 (some ⟨g,0,none⟩) n c1 (fs.set p { f with sure:=(f.data.length:Nat) }):=by
    refine own_set (v:=.slice Ad nd cd) HN.out hc62 hc63 hgb HRW.out hSg (heap_setCell_same w5.drew g _ _ _ _ EG5.out) (by simpa using hcs) (fun b o hSb=>World.cell?_of_block (hAL b hSb)) (fun i hi=>set_cell _ (by omega)) ⟨?_,?_,?_,x3,?_⟩ ⟨Ad,nd,cd,rfl,?_,x6.out,x7,by unfold maxLen;omega⟩
    ·rw [set_cell _ (by omega)];exact HX0.out
    ·rw [set_cell _ (by omega)];exact HX1.out
    ·rw [x6.out];exact set_cell_self _ hc3
    ·rw [x6.out];show (Lit.int .i64 (nd:Int)).wf=true;exact WalkArith.wf_i64 (by omega)
    ·exact IntsIn.keep HX5.out (fun b o hSb=>World.cell?_of_block (hAL b hSb)) (fun _ h=>h)
   have F7:=F6.setRes (.slice (some ⟨g,0,none⟩) n c1) (.int .i64 room) (.int .i64 f2) (.bool down)
   have hsz6:(w5.drew.setCell ⟨g,p * 3+2,none⟩ (.int .i64 (nd:Int))).heap.size=w5.heap.size:=by simp [World.setCell]
   exact F7.ret (F7.own HO6 (Nat.le_refl _) (fun b hb=>by have:=HS1.out b hb;rw [hsz6];omega)) (by omega) (fun b hb=>by have:=HS1.out b hb;have:=F7.size;rw [hsz6] at this;omega) _ _ _ _
end Go.Proofs.Ytlipgnenbdchmaa.disk
end
