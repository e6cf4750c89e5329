/-
  DiskImpl10
-/
import Derived.Test.YtalhdalinpdanaaGreatDoorMwl15
import Derived.Test.YtalhdalinpdanaaGreatDoorMwl11
import Derived.Deep.RegionLaw
import Derived.Lib.SliceRun
set_option linter.unusedVariables false
set_option linter.unusedSimpArgs false
namespace Go.Proofs.YtalhdalinpdanaaGreatDoor.disk
set_option maxRecDepth 20000
open Go.RowKit
theorem run_clear_one (w:World) (ty:TypeId) (g o c:Nat) (hc:∀ j,j < 3→(w.cell? ⟨g,o+j,none⟩).isSome=true) (hf:∀ j,j < 3→w.frozen? ⟨g,o+j,none⟩=false) :
  (Builtin.clear_ #[25] ty #[.slice (some ⟨g,o,none⟩) 1 c]).run Tryz.prog w = .ok (.tuple #[]) (w.setCells g o zeroFile):=by
 have hv:(zeroValue 79).run Tryz.prog w = .ok (.agg #[.string ⟨#[]⟩,.slice none 0 0,.int .i64 0]) w:=by kernel_rfl
 have hzc:(Builtin.zeroCells (Value.agg #[.string ⟨#[]⟩,.slice none 0 0,.int .i64 0]).cells 1).toList=zeroFile:=by kernel_rfl
 have hst:=run_storeCells_cells (P:=Tryz.prog) g o zeroFile 0 w (by simpa using hc) (by simpa using hf) (by intro v hv';simp [zeroFile] at hv';rcases hv' with rfl | rfl | rfl<;>rfl)
 simp only [Nat.add_zero] at hst
 simp [Builtin.clear_,run_underlying Tryz.underlying25,hv,hzc,hst]
set_option maxHeartbeats 4000000 in
theorem ddelete (g n c i m:Nat) (cur:Array Value) (fs:List FileD) (S:Nat→Prop) (w:World) (hn:fs.length=n) (him:n=i+1+m) (hnc:n≤c) (hcm:c≤9223372036854775807) (hE:w.heap[g]?=some (.cells cur 79 (0,0))) (hcs:cur.size=c * 3) (hSg:¬ S g) (hrow:RowAt w S cur fs) :
  Calls Tryz.prog 78 #[.slice (some ⟨g,0,none⟩) n c,.int .i64 (i:Nat),.int .i64 ((i:Int)+1)] w fun e w'=>e = .returned (.slice (some ⟨g,0,none⟩) (i+m) c) ∧
   ∃ cur',w'.heap[g]?=some (.cells cur' 79 (0,0))∧cur'.size=c * 3∧RowAt w' S cur' (fs.eraseIdx i)∧Below g w w'∧w'.heap.size=w.heap.size∧(∀ b,b≠g→w'.heap[b]?=w.heap[b]?):=by
 subst him
 have HE:=Lib.hid hE
 have HR:=Lib.hid hrow
 have HN:=Lib.hid hn
 obtain ⟨news,hnews⟩:∃ news,news=cellsFrom cur (i+1) m:=⟨_,rfl⟩
 have hl:news.length=m * 3:=by rw [hnews];exact from_len (by omega)
 have h1c:Hid (∀ u ∈ news,u.oneCell'=true):=Lib.hid (by rw [hnews];exact from_one hrow (by omega))
 have hcell:∀ (W:World),W.heap[g]?=some (.cells cur 79 (0,0))→∀ k,k < c * 3→(W.cell? ⟨g,k,none⟩).isSome=true∧W.frozen? ⟨g,k,none⟩=false:=fun W h k hk=>by
  refine ⟨?_,frozen_of_row W g k _ _ h⟩
  rw [cell_of_row W g k _ _ _ h,Array.getElem?_eq_getElem (by omega)];rfl
 obtain ⟨W1,hW1⟩:∃ W1,W1=w.drew.setCells g (i * 3) news:=⟨_,rfl⟩
 have hE1:W1.heap[g]?=some (.cells (laid cur (i * 3) news) 79 (0,0)):=by rw [hW1];exact heap_cells_self (w:=w.drew) _ _ hE
 have hcl:∀ ty cc,(Builtin.clear_ #[25] ty #[.slice (some ⟨g,(i+m) * 3,none⟩) 1 cc]).run Tryz.prog W1 = .ok (.tuple #[]) (W1.setCells g ((i+m) * 3) zeroFile):=fun ty cc =>
  run_clear_one W1 ty g ((i+m) * 3) cc (fun j hj=>by rw [cell_of_row W1 g _ _ _ _ hE1,Array.getElem?_eq_getElem (by rw [laid_size];omega)];rfl) (fun j hj=>frozen_of_row W1 g _ _ _ hE1)
 have HFIN:Hid (∃ cur',(W1.setCells g ((i+m) * 3) zeroFile).heap[g]?=some (.cells cur' 79 (0,0))∧cur'.size=c * 3∧RowAt (W1.setCells g ((i+m) * 3) zeroFile) S cur' (fs.eraseIdx i)∧Below g w (W1.setCells g ((i+m) * 3) zeroFile)∧(W1.setCells g ((i+m) * 3) zeroFile).heap.size=w.heap.size∧(∀ b,b≠g→(W1.setCells g ((i+m) * 3) zeroFile).heap[b]?=w.heap[b]?)):=Lib.hid (by
  have hoff:∀ b,b≠g→(W1.setCells g ((i+m) * 3) zeroFile).heap[b]?=w.heap[b]?:=fun b hb=>by
   rw [heap_cells _ _ hb,hW1];exact heap_cells (w:=w.drew) _ _ hb
  refine ⟨_,heap_cells_self _ _ hE1,by rw [laid_size,laid_size];exact hcs,hrow.less (m:=m) (fun b o hSb=>World.cell?_of_block (hoff b (fun e=>hSg (e▸hSb)))) (by omega) (fun k hk=>?_) (fun t ht=>?_),?_,?_,hoff⟩
  ·rw [laid_off (by omega),laid_off (by omega)]
  ·rw [laid_off (by omega),laid_in (by omega) (by omega),hnews,from_get (by omega)]
  ·rw [hW1];exact below_cells (below_cells (Below.refl _ _).drew (Nat.le_refl _) _ _) (Nat.le_refl _) _ _
  ·rw [size_cells,hW1,size_cells];rfl)
 have HW1:=Lib.hid hW1
 have hspare:Hid (∀ j,j < news.length→(w.drew.cell? ⟨g,0+i * 3+j,none⟩).isSome=true∧w.drew.frozen? ⟨g,0+i * 3+j,none⟩=false):=Lib.hid (fun j hj=>hcell w.drew hE _ (by omega))
 have hinfo:∃ i0:TypeInfo,Hid (Tryz.prog.info? 79=some i0)∧Hid (i0.size=3):=by
  refine ⟨(Tryz.prog.info? 79).getD default,Lib.hid (by kernel_rfl),Lib.hid (by kernel_rfl)⟩
 obtain ⟨i0,hi0,hz1⟩:=hinfo
 obtain ⟨A,hA,hsrc⟩:∃ A:Addr,(if c=i+1 then (some ⟨g,0,none⟩:Option Addr) else some ⟨g,(i+1) * 3,none⟩)=some A∧Hid (∀ t u,news[t]?=some u→w.drew.cell? (A.add t)=some u):=by
  by_cases h:c=i+1
  ·refine ⟨⟨g,0,none⟩,by simp [h],Lib.hid fun t u hu=>?_⟩
   have ht:=(List.getElem?_eq_some_iff.1 hu).1
   omega
  ·refine ⟨⟨g,(i+1) * 3,none⟩,by simp [h],Lib.hid fun t u hu=>?_⟩
   have ht:=(List.getElem?_eq_some_iff.1 hu).1
   rw [Addr.add_lit,cell_of_row w.drew g _ _ _ _ hE,← hu,hnews,from_get (by omega)]
 have hw1:IntKind.i64.wrap ((i:Int)+1)=(i:Int)+1:=by rw [IntKind.wrap_i64];omega
 have htn:((i:Int)+1).toNat=i+1:=by omega
 have hic:i≤c:=by omega
 have hb1:(0:Int)≤(i:Int)+1:=by omega
 have hb2:(i:Int)+1≤(i:Int)+1+(m:Int):=by omega
 have hne2:¬ (c=i+m):=by omega
 have hic2:i+1≤c:=by omega
 have hsub:i+1+m - (i+m)=1:=by omega
 have hsub2:i+1+m - (i+1)=m:=by omega
 have hne:¬ ((i:Int)=(i:Int)+1):=by omega
 clear hE hrow hn hE1 hW1 hcell hnews hSg
 go_enter Tryz.func78,Tryz.ntmps78
 go_wp2_with fail
 go_region_law (refine step_append_room rfl (.tmp 22) (.tmp 25) 25 rfl 79 i0 3 Tryz.underlying25 hi0.out hz1.out g 0 i c (by simp [Act.eval,Act.put]) A m (c - (i+1)) news (by simp [Act.eval,Act.put]) hl hsrc.out h1c.out (by omega) hspare.out ?_;rw [Nat.zero_add,← HW1.out])
 go_wp2
 go_ret
 exact ⟨rfl,HFIN.out⟩
theorem sans_erase {fs:List FileD} (h:Row fs) {p:Nat} {f:FileD} (hf:fs[p]?=some f):sans f.name fs=fs.eraseIdx p:=by
 refine Row.ext (row_sans _ h) (List.Pairwise.sublist (List.eraseIdx_sublist _ _) h) fun g=>?_
 rw [mem_sans,List.mem_eraseIdx_iff_getElem?]
 constructor
 ·rintro ⟨h1,h2⟩
  obtain ⟨j,hj,rfl⟩:=List.getElem_of_mem h1
  refine ⟨j,fun e=>h2 ?_,List.getElem?_eq_getElem hj⟩
  subst e
  rw [(List.getElem?_eq_some_iff.1 hf).2]
 ·rintro ⟨j,hjp,hj⟩
  refine ⟨List.mem_of_getElem? hj,fun e=>?_⟩
  rcases Nat.lt_or_gt_of_ne hjp with h4 | h4
  ·exact nlt_ne (row_lt h hj hf h4) e
  ·exact nlt_ne (row_lt h hf hj h4) e.symm
set_option maxHeartbeats 6000000 in
theorem dremove (A:Option Addr) (n c:Nat) (room fuse:Int) (down:Bool) (nm:ByteArray) (fs:List FileD) (r:DiskD × Int) (S:Nat→Prop) (w:World) (hS:∀ b,S b→b < w.heap.size) (hf:FilesIn w S A fs) (hn:fs.length=n) (hnc:n≤c) (hcm:c≤maxLen) (hr:inI room) (hfu:inI fuse) (hsh:shortB fs=true) (hnm:nm.size≤100) (hv:removeD ⟨fs,room,fuse,down⟩ nm=r) :
  Calls Tryz.prog 42 #[.agg #[.slice A n c,.int .i64 room,.int .i64 fuse,.bool down],.string nm] w (RetOp S w r):=by
 have HCP:=Lib.hid (dcopy_fr A n c room fuse down fs S w hS hf hn hnc hcm hsh)
 obtain ⟨x,hx⟩:∃ x,foundE ⟨fs,room,fuse,down⟩ nm=x:=⟨_,rfl⟩
 obtain ⟨p,hp⟩:∃ p,(if x=0 then placeN nm fs else 0)=p:=⟨_,rfl⟩
 have HFD:=Lib.hid (found_fr n room fuse down nm fs p x w hn hr hfu hsh hnm hx hp)
 have HN:=Lib.hid hn
 have hn70:n≤70:=by rw [← hn];exact (used_short hsh).2
 rcases op_no ⟨fs,room,fuse,down⟩ nm (sans nm fs) with ⟨h1,h2⟩ | ⟨f,h1,hrt,hlk,hold,hname,hfz,h2⟩
 ·have HR2:Hid (r=(⟨fs,room,fuse,down⟩,x)):=Lib.hid (by rw [← hv,← hx];exact h2)
  have hx1:(x != 0)=true:=by rw [← hx];simpa using h1
  clear hf hn hnc hcm hsh hx hp hv h1 hS hnm h2
  go_enter Tryz.func42,Tryz.ntmps42
  go_wp2_with (first
   |((with_reducible refine HCP.out.mono ?_);rintro e w1 ⟨A1,c1,S1,rfl,HO1,HAP,HS1,F1⟩;obtain ⟨b0,b1,b2,b3,q0,q1,q2,q3,bf0,bf1,bf2,bf3,qf0,qf1,qf2,qf3⟩:=F1.out.cells;have F2:=Lib.hid (F1.out.setBox (.slice A1 n c1) (.int .i64 room) (.int .i64 fuse) (.bool down)))
   |((with_reducible refine (HFD.out _ _ _ _ _ _ _ _ _ _ _ _ _ F2.out HO1.out HS1.out).mono ?_);rintro e w2 ⟨rfl,hg2⟩;have F3:=Lib.hid (F2.out.below hg2);obtain ⟨bb0,bb1,bb2,bb3,qq0,qq1,qq2,qq3,bbf0,bbf1,bbf2,bbf3,qqf0,qqf1,qqf2,qqf3⟩:=F3.out.cells))
  refine bodyPost_ret (v:=.tuple #[.agg #[.slice A1 n c1,.int .i64 room,.int .i64 fuse,.bool down],.int .i64 x]) (by simp [results,Tryz.results42,go_sem,qq0,qq1,qq2,qq3]) rfl ?_
  rw [HR2.out]
  have F4:=F3.out.setRes (.slice A1 n c1) (.int .i64 room) (.int .i64 fuse) (.bool down)
  exact F4.ret (F4.own HO1.out (Nat.le_refl _) HS1.out) (by omega) (fun b hb=>by have:=HS1.out b hb;have:=F4.size;omega) _ _ _ _
 ·obtain rfl:0=x:=by rw [← hx,h1]
  have hrow:Row fs:=((right_iff _).1 hrt).2.2.2.2.1
  have hpl:=place_at hrow hlk
  have hpp:placeN nm fs=p:=by rw [← hp];simp
  rw [hpp] at hpl
  have hpn:p < n:=by rw [← hn];exact (List.getElem?_eq_some_iff.1 hpl).1
  rcases h2 with ⟨hz,hsp,h2⟩ | ⟨f2,hz,hsp,h2⟩
  ·have HR2:Hid (r=(⟨fs,room,0,true⟩,9)):=Lib.hid (by rw [← hv];exact h2)
   have HSP:Hid (∀ A1 c1 W,Calls Tryz.prog 77 #[.agg #[.slice A1 n c1,.int .i64 room,.int .i64 fuse,.bool down]] W fun e w'=>e = .returned (.tuple #[.agg #[.slice A1 n c1,.int .i64 room,.int .i64 0,.bool true],.int .i64 9])∧Below W.heap.size W w') :=
    Lib.hid (fun A1 c1 W=>dspent A1 n c1 room fuse down 0 true 9 W hfu hfz hsp)
   clear hf hn hnc hcm hsh hx hp hv h1 hS hnm h2 hz hsp hrt hlk hold hname hrow hpl hpp
   go_enter Tryz.func42,Tryz.ntmps42
   go_wp2_with (first
    |((with_reducible refine HCP.out.mono ?_);rintro e w1 ⟨A1,c1,S1,rfl,HO1,HAP,HS1,F1⟩;obtain ⟨b0,b1,b2,b3,q0,q1,q2,q3,bf0,bf1,bf2,bf3,qf0,qf1,qf2,qf3⟩:=F1.out.cells;have F2:=Lib.hid (F1.out.setBox (.slice A1 n c1) (.int .i64 room) (.int .i64 fuse) (.bool down)))
    |((with_reducible refine (HFD.out _ _ _ _ _ _ _ _ _ _ _ _ _ F2.out HO1.out HS1.out).mono ?_);rintro e w2 ⟨rfl,hg2⟩;have F3:=Lib.hid (F2.out.below hg2);obtain ⟨bb0,bb1,bb2,bb3,qq0,qq1,qq2,qq3,bbf0,bbf1,bbf2,bbf3,qqf0,qqf1,qqf2,qqf3⟩:=F3.out.cells)
    |((with_reducible refine (HSP.out _ _ _).mono ?_);rintro e w4 ⟨rfl,hg4⟩;have F4:=Lib.hid (F3.out.below hg4);obtain ⟨cb0,cb1,cb2,cb3,cq0,cq1,cq2,cq3,cbf0,cbf1,cbf2,cbf3,cqf0,cqf1,cqf2,cqf3⟩:=F4.out.cells))
   refine bodyPost_ret (v:=.tuple #[.agg #[.slice A1 n c1,.int .i64 room,.int .i64 0,.bool true],.int .i64 9]) (by simp [results,Tryz.results42,go_sem,cq0,cq1,cq2,cq3]) rfl ?_
   rw [HR2.out]
   have F5:=(F4.out.setBox (.slice A1 n c1) (.int .i64 room) (.int .i64 0) (.bool true)).setRes (.slice A1 n c1) (.int .i64 room) (.int .i64 0) (.bool true)
   exact F5.ret (F5.own HO1.out (Nat.le_refl _) HS1.out) (by omega) (fun b hb=>by have:=HS1.out b hb;have:=F5.size;omega) _ _ _ _
  ·obtain ⟨m,him⟩:∃ m,n=p+1+m:=⟨n - (p+1),by omega⟩
   have HIM:=Lib.hid him
   clear him
   have HR2:Hid (r=(⟨fs.eraseIdx p,room,f2,down⟩,0)):=Lib.hid (by rw [← hv,← sans_erase hrow hpl,hname];exact h2)
   have HSP:Hid (∀ A1 c1 W,Calls Tryz.prog 77 #[.agg #[.slice A1 n c1,.int .i64 room,.int .i64 fuse,.bool down]] W fun e w'=>e = .returned (.tuple #[.agg #[.slice A1 n c1,.int .i64 room,.int .i64 f2,.bool down],.int .i64 0])∧Below W.heap.size W w') :=
    Lib.hid (fun A1 c1 W=>dspent A1 n c1 room fuse down f2 down 0 W hfu hfz hsp)
   clear hf hn hnc hcm hsh hx hp hv h1 hS hnm h2 hz hsp hrt hlk hold hname hrow hpl hpp
   go_enter Tryz.func42,Tryz.ntmps42
   go_wp2_with (first
    |((with_reducible refine HCP.out.mono ?_);rintro e w1 ⟨A1,c1,S1,rfl,HO1,HAP,HS1,F1⟩;have hc63:=HO1.out.cap.2;have hc62:=HO1.out.cap.1;unfold maxLen at hc63;obtain ⟨g,cur,rfl,hgb,hgw,EG,hcs,hSg,HRW⟩:=own_some HO1.out (by omega);obtain ⟨b0,b1,b2,b3,q0,q1,q2,q3,bf0,bf1,bf2,bf3,qf0,qf1,qf2,qf3⟩:=F1.out.cells;have F2:=Lib.hid (F1.out.setBox (.slice (some ⟨g,0,none⟩) n c1) (.int .i64 room) (.int .i64 fuse) (.bool down)))
    |((with_reducible refine (HFD.out _ _ _ _ _ _ _ _ _ _ _ _ _ F2.out HO1.out HS1.out).mono ?_);rintro e w2 ⟨rfl,hg2⟩;have F3:=Lib.hid (F2.out.below hg2);obtain ⟨bb0,bb1,bb2,bb3,qq0,qq1,qq2,qq3,bbf0,bbf1,bbf2,bbf3,qqf0,qqf1,qqf2,qqf3⟩:=F3.out.cells)
    |((with_reducible refine (HSP.out _ _ _).mono ?_);rintro e w4 ⟨rfl,hg4⟩;have F4:=Lib.hid (F3.out.below hg4);obtain ⟨cb0,cb1,cb2,cb3,cq0,cq1,cq2,cq3,cbf0,cbf1,cbf2,cbf3,cqf0,cqf1,cqf2,cqf3⟩:=F4.out.cells;have F5:=Lib.hid (F4.out.setBox (.slice (some ⟨g,0,none⟩) n c1) (.int .i64 room) (.int .i64 f2) (.bool down));have HDEL:=Lib.hid (ddelete g n c1 p m cur fs S1 _ HN.out HIM.out hc62 hc63 ((F5.out.same g hgb hgw).trans EG.out) hcs hSg (HRW.out.keep (fun b o hSb=>World.cell?_of_block (F5.out.same b (HS1.out b hSb).1 (HS1.out b hSb).2)) (fun _ h=>h))))
    |((with_reducible refine HDEL.out.mono ?_);rintro e w6 ⟨rfl,cur6,eg6,hcs6,hrw6,hbel6,hsz6,hoff6⟩;have F6:=Lib.hid (F5.out.other (hbel6.mono hgb));have EG6:=Lib.hid eg6;have HRW6:=Lib.hid hrw6;have hsz5:=F5.out.size;clear eg6 hrw6 hoff6;obtain ⟨db0,db1,db2,db3,dq0,dq1,dq2,dq3,dbf0,dbf1,dbf2,dbf3,dqf0,dqf1,dqf2,dqf3⟩:=F6.out.cells))
   refine bodyPost_ret (v:=.tuple #[.agg #[.slice (some ⟨g,0,none⟩) (p+m) c1,.int .i64 room,.int .i64 f2,.bool down],.int .i64 0]) (by simp [results,Tryz.results42,go_sem,dq0,dq1,dq2,dq3]) rfl ?_
   rw [HR2.out]
   have F7:=(F6.out.set0 (.slice (some ⟨g,0,none⟩) (p+m) c1)).setRes (.slice (some ⟨g,0,none⟩) (p+m) c1) (.int .i64 room) (.int .i64 f2) (.bool down)
   have HO6:OwnF w6 (w.heap.size+2) 79 S1 (some ⟨g,0,none⟩) (p+m) c1 (fs.eraseIdx p):=by
    have him:=HIM.out
    exact ⟨by rw [List.length_eraseIdx,HN.out,if_pos hpn];omega,by omega,by unfold maxLen;omega,.inr ⟨g,cur6,rfl,hgb,EG6.out,hcs6,hSg,HRW6.out⟩⟩
   exact F7.ret (F7.own HO6 (Nat.le_refl _) (fun b hb=>by have:=HS1.out b hb;omega)) (by omega) (fun b hb=>by have:=HS1.out b hb;have:=F7.size;omega) _ _ _ _
end Go.Proofs.YtalhdalinpdanaaGreatDoor.disk
