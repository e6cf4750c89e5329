/-
  DiskImpl17
-/
import Derived.Test.YtlipgnenbdchmaaMsg33
import Derived.Deep.RegionWith
import Derived.Deep.CutRange
import Derived.Deep.RegionLaw
import Derived.IntWalk
set_option linter.unusedVariables false
set_option linter.unusedSimpArgs false
namespace Go.Proofs.Ytlipgnenbdchmaa.disk
set_option maxRecDepth 20000
open Go.RowKit
attribute [local go_sem] undef
set_option maxHeartbeats 20000000 in
theorem dappend_there (A:Option Addr) (n c:Nat) (room fuse:Int) (down:Bool) (nm:ByteArray) (Ab:Option Addr) (nb cb:Nat) (bs:List Nat) (fs:List FileD) (r:DiskD × Int) (S:Nat→Prop) (w:World) (hS:∀ b,S b→b < w.heap.size) (hf:FilesIn w S A fs) (hn:fs.length=n) (hnc:n≤c) (hcm:c≤maxLen) (hr:inI room) (hfu:inI fuse) (hsh:shortB fs=true) (hnm:nm.size≤100) (hb:BysIn w S Ab bs) (hbn:bs.length=nb) (hbc:nb≤cb) (hbm:cb≤maxLen) (hbl:nb≤70000) (hv:appendD ⟨fs,room,fuse,down⟩ nm bs=r) (hq:firstE ⟨fs,room,fuse,down⟩ nm nm=0) (hq2:appE ⟨fs,room,fuse,down⟩ nm bs=0) (f2:Int) (dn2:Bool) (x2:Int) (hsp:spentD fuse down=((f2,dn2),x2)) (f:FileD) (hl:look nm fs=some f) :
  Calls Try.prog 32 #[.agg #[.slice A n c,.int .i64 room,.int .i64 fuse,.bool down],.string nm,.slice Ab nb cb] w (RetOp S w r):=by
 have HCP:=Lib.hid (dcopy_fr A n c room fuse down fs S w hS hf hn hnc hcm hsh)
 have hus:=used_short hsh
 obtain ⟨y,hy⟩:∃ y,firstE ⟨fs,room,fuse,down⟩ nm nm=y:=⟨_,rfl⟩
 obtain ⟨u,hu⟩:∃ u,used fs=u:=⟨_,rfl⟩
 have HAL:=Lib.hid (allowed_fr n room fuse down nm fs y w hn hr hfu hsh hnm hy)
 have HUS:=Lib.hid (used_fr n room fuse down fs u w hn hsh hu)
 have HN:=Lib.hid hn
 have HU:=Lib.hid hu
 have hu70:u≤70000:=by rw [← hu];exact hus.1
 have hn70:n≤70:=by rw [← hn];exact hus.2
 obtain rfl:0=y:=by rw [← hy,hq]
 have hrt:=(first_zero.1 hq).1
 have hfz:=((right_iff _).1 hrt).2.1
 have hrow:Row fs:=((right_iff _).1 hrt).2.2.2.2.1
 have hrv:r=(⟨appF fs nm bs,room,f2,dn2⟩,x2):=by
  rw [← hv]
  rcases op_app ⟨fs,room,fuse,down⟩ nm bs with ⟨h1,_⟩ | ⟨_,_,_,⟨h1,_⟩ | ⟨g2,e2,y2,h1,h2,h3⟩⟩
  ·exact absurd hq h1
  ·rw [hq2] at h1;cases h1
  ·rw [h3]
   have h4:((g2,e2),y2)=((f2,dn2),x2):=by rw [← h2,← hsp]
   injection h4 with h4 h5
   injection h4 with h4 h6
   rw [h4,h5,h6]
 have hroom:¬ (room < (u:Int)+(nb:Int))∧(look nm fs=none→n < 64):=by
  obtain ⟨a1,a2⟩:=app_zero hq2
  simp only [hu,hbn] at a1
  exact ⟨by omega,fun h=>by have:=a2 h;simp only at this;omega⟩
 have hz:(u:Int)+(nb:Int)≤room:=by omega
 have hzd:decide (room < (u:Int)+(nb:Int))=false:=decide_eq_false hroom.1
 obtain ⟨p,hp⟩:∃ p,placeN nm fs=p:=⟨_,rfl⟩
 have HPL:=Lib.hid (place_fr n nm fs p true w hn hsh hrow hp (by rw [hl];rfl))
 have HSP:Hid (∀ A1 n1 c1 W,Calls Try.prog 54 #[.agg #[.slice A1 n1 c1,.int .i64 room,.int .i64 fuse,.bool down]] W fun e w'=>e = .returned (.tuple #[.agg #[.slice A1 n1 c1,.int .i64 room,.int .i64 f2,.bool dn2],.int .i64 x2])∧Below W.heap.size W w') :=
  Lib.hid (fun A1 n1 c1 W=>dspent A1 n1 c1 room fuse down f2 dn2 x2 W hfu hfz hsp)
 have hwr:IntKind.i64.wrap ((u:Int)+(nb:Int))=(u:Int)+(nb:Int):=by rw [IntKind.wrap_i64];omega
 have HBB:Hid (∀ W,Below w.heap.size w W→Bys W w.heap.size Ab bs):=Lib.hid (fun W h=>(hb.bys hS).below h)
 have HBN:=Lib.hid hbn
 have hpl:=place_at hrow hl
 rw [hp] at hpl
 have hpn:p < n:=by rw [← hn];exact (List.getElem?_eq_some_iff.1 hpl).1
 have HPF:=Lib.hid hpl
 have hfl:f.data.length≤70000:=by have:=used_mem (List.mem_of_getElem? hpl);omega
 have HFL:=Lib.hid hfl
 have HAPP:Hid (appF fs nm bs=fs.set p { f with data:=f.data++bs }):=Lib.hid (by
  have hold:oldOf nm fs=f:=by unfold oldOf;rw [hl];rfl
  unfold appF
  rw [hold]
  exact with_set hrow hpl rfl)
 clear hpl hfl
 have HR2:Hid (r=(⟨appF fs nm bs,room,f2,dn2⟩,x2)):=Lib.hid hrv
 clear hf hn hnc hcm hsh hv hS hb hbn hbc hbm hy hu hq hq2 hus hrt hrow hp hl hrv hroom hfz hsp
 go_enter Try.func32,Try.ntmps32
 go_wp2_with (first
  |((with_reducible refine HCP.out.mono ?_);rintro e w1 ⟨A1,c1,S1,rfl,HO1,HAP,HS1,F1⟩;have hc63:=HO1.out.cap.2;have hc62:=HO1.out.cap.1;unfold maxLen at hc63;obtain ⟨g,cur,rfl,hgb,hgw,EG,hcs,hSg,HRW⟩:=own_some HO1.out (by omega);obtain ⟨b0,b1,b2,b3,q0,q1,q2,q3,bf0,bf1,bf2,bf3,qf0,qf1,qf2,qf3⟩:=F1.out.cells;have F2:=Lib.hid (F1.out.setBox (.slice (some ⟨g,0,none⟩) n c1) (.int .i64 room) (.int .i64 fuse) (.bool down)))
  |((with_reducible refine (HAL.out _ _ _ _ _ _ _ _ _ _ _ _ _ F2.out HO1.out HS1.out).mono ?_);rintro e wa ⟨rfl,hga⟩;have Fa:=Lib.hid (F2.out.below hga);obtain ⟨ca0,ca1,ca2,ca3,caq0,caq1,caq2,caq3,caf0,caf1,caf2,caf3,cag0,cag1,cag2,cag3⟩:=Fa.out.cells)
  |((with_reducible refine (HPL.out _ _ _ _ _ _ _ _ _ _ _ _ _ Fa.out HO1.out HS1.out).mono ?_);rintro e w2 ⟨rfl,hg2⟩;have F3:=Lib.hid (Fa.out.below hg2);obtain ⟨cb0,cb1,cb2,cb3,cbq0,cbq1,cbq2,cbq3,cbf0,cbf1,cbf2,cbf3,cbg0,cbg1,cbg2,cbg3⟩:=F3.out.cells))
 go_cut [44] from 27 to 43 (fun v wx=>v = .bool false∧DFr 24 w w1 wx (.slice (some ⟨g,0,none⟩) n c1) (.int .i64 room) (.int .i64 fuse) (.bool down) (.slice none 0 0) (.int .i64 0) (.int .i64 0) (.bool false))
 case first =>
  first
   |go_region_with (go_at_call 52;refine Calls.mono (HUS.out _ _ _ _ _ _ _ _ _ _ _ _ _ F3.out.drew HO1.out HS1.out) ?_;rintro e w4 ⟨rfl,hg4⟩;have F4:=Lib.hid (F3.out.drew.below hg4);obtain ⟨cc0,cc1,cc2,cc3,ccq0,ccq1,ccq2,ccq3,ccf0,ccf1,ccf2,ccf3,ccg0,ccg1,ccg2,ccg3⟩:=F4.out.cells)
   |fail
  all_goals (go_wp2_with fail;go_meet;exact ⟨by first | rfl | simp,F4.out⟩)
 case rest =>
  obtain ⟨rfl,fr⟩:=hcut
  have FC:=Lib.hid fr
  obtain ⟨da0,da1,da2,da3,daq0,daq1,daq2,daq3,daf0,daf1,daf2,daf3,dag0,dag1,dag2,dag3⟩:=FC.out.cells
  clear fr
  obtain ⟨Ad,nd,cd,hcell,hown0,hog,hoth0⟩:=HAP.out g cur 51 rfl EG.out p f HPF.out
  have hself:FileCells cur p f (.slice Ad nd cd):=by
   obtain ⟨v,⟨s0,s1,s2,s3⟩,_⟩:=HRW.out p _ HPF.out
   exact ⟨s0,hcell,s2,s3⟩
  have hsc:=FC.out.size
  have htw:=FC.out.two
  have EGC:=Lib.hid ((FC.out.same g hgb hgw).trans EG.out)
  have hownc:OwnBys wc.drew (w.heap.size+2) 5 Ad nd cd f.data:=OwnInts.same hown0 (fun b hb=>by
   have:=OwnBys.block hown0 b hb
   exact FC.out.same b this.1 this.2)
  have hndl:nd≤70000:=by have:=OwnBys.len hown0;have:=HFL.out;omega
  obtain ⟨A7,c7,w7,hrun,ho7,hgr7,hob7⟩:=run_append_data wc.drew Ad nd cd f.data Ab nb cb bs (w.heap.size+2) w.heap.size hownc (HBB.out _ FC.out.low.drew) HBN.out (by omega) (by show w.heap.size+2≤wc.heap.size;omega)
  have hdat:=own_data (W:=wc.drew) (W7:=w7) (base:=w.heap.size+2) (g:=g) (p:=p) (n:=n) (c:=c1) (T:=51) (T8:=5) (S:=fun b=>S1 b∧(Value.slice Ad nd cd).ownBlock≠some b) (fs:=fs) (cur:=cur) (f:=f) (Ad:=Ad) (nd:=nd) (cd:=cd) (A7:=A7) (n7:=nd+nb) (c7:=c7) (bs7:=f.data++bs)
   HN.out hc62 hc63 hgb (by show g < wc.heap.size;omega) EGC.out hcs HPF.out hself (fun j f' hj hf'=>by
    obtain ⟨v,k1,k2⟩:=hoth0 j f' hj hf'
    exact ⟨v,k1,k2.keep (fun b o hb=>World.cell?_of_block (FC.out.same b (HS1.out b hb.1).1 (HS1.out b hb.1).2)) (fun _ h=>h)⟩)
   (fun b hb=>by have:=HS1.out b hb.1;exact ⟨this.1,by show b < wc.heap.size;omega,fun e=>hSg (e▸hb.1),hb.2⟩) hgr7 hog ho7 hob7
  obtain ⟨e8,ho8⟩:=hdat
  have hrb:∀ b,(Value.slice Ad nd cd).ownBlock=some b→w.heap.size+2≤b:=fun b hb=>(OwnBys.block hown0 b hb).1
  have hc3:p * 3+1 < cur.size:=by rw [hcs];omega
  obtain ⟨z1,zf1⟩:=block_cell EGC.out (p * 3+1) _ hcell
  clear hcell hown0 hoth0 hownc hself
  have F7:=Lib.hid (FC.out.drew.other (below_grown (Below.refl (w.heap.size+2) wc.drew) hgr7 (by show w.heap.size+2≤wc.heap.size;omega) hrb))
  have EG7:=Lib.hid ((hgr7.block g (by show g < wc.heap.size;omega) (fun e=>hog e.symm)).trans EGC.out)
  obtain ⟨dc0,dc1,dc2,dc3,dcq0,dcq1,dcq2,dcq3,dcf0,dcf1,dcf2,dcf3,dcg0,dcg1,dcg2,dcg3⟩:=F7.out.cells
  obtain ⟨y1,yf1⟩:=block_cell EG7.out (p * 3+1) _ ((cell_of_row wc g _ _ _ _ EGC.out).symm.trans z1)
  have hs7:=hgr7.size
  have HO8:=Lib.hid ho8
  have F8:=Lib.hid (F7.out.setOwn (g:=g) (i:=p * 3+1) (by omega) (.slice A7 (nd+nb) c7))
  have hne0:w.heap.size≠g:=by omega
  have hne1:w.heap.size+1≠g:=by omega
  clear ho7 hgr7 hob7 ho8 e8
  have hip:(p:Int) < (n:Int):=by omega
  go_wp2_with fail
  go_region_law (refine step_append_runI rfl _ _ 27 rfl _ _ (by simp [Act.eval,Act.put]) (by simp [Act.eval,Act.put]) hrun ?_)
  all_goals
   obtain ⟨dd0,dd1,dd2,dd3,ddq0,ddq1,ddq2,ddq3,ddf0,ddf1,ddf2,ddf3,ddg0,ddg1,ddg2,ddg3⟩:=F8.out.cells
   go_wp2_with ((with_reducible refine (HSP.out _ _ _ _).mono ?_);rintro e w9 ⟨rfl,hg9⟩;have F9:=Lib.hid (F8.out.below hg9);obtain ⟨de0,de1,de2,de3,deq0,deq1,deq2,deq3,def0,def1,def2,def3,deg0,deg1,deg2,deg3⟩:=F9.out.cells)
   refine bodyPost_ret (v:=.tuple #[.agg #[.slice (some ⟨g,0,none⟩) n c1,.int .i64 room,.int .i64 f2,.bool dn2],.int .i64 x2]) (by simp [results,Try.results32,go_sem,deq0,deq1,deq2,deq3]) rfl ?_
   rw [HR2.out,HAPP.out]
   have F10:=F9.out.setRes (.slice (some ⟨g,0,none⟩) n c1) (.int .i64 room) (.int .i64 f2) (.bool dn2)
   have hsz8:(w7.setCell ⟨g,p * 3+1,none⟩ (.slice A7 (nd+nb) c7)).heap.size=w7.heap.size:=by simp [World.setCell]
   exact F10.ret (F10.own HO8.out (Nat.le_refl _) (fun b hb=>⟨hb.1,by rw [hsz8];exact hb.2.1⟩)) (by omega) (fun b hb=>by have:=F10.size;rw [hsz8] at this;exact ⟨by have:=hb.1;omega,by have:=hb.2.1;omega⟩) _ _ _ _
end Go.Proofs.Ytlipgnenbdchmaa.disk
