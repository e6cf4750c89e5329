/-
  DiskImpl16
-/
import Derived.Test.YtlipgnenbdchmaaMsg33
import Derived.Deep.RegionWith
import Derived.Deep.CutRange
import Derived.Deep.RegionLaw
import Derived.IntWalk
set_option linter.unusedVariables false
set_option linter.unusedSimpArgs false
namespace Go.Proofs.Ytlipgnenbdchmaa.disk
set_option maxRecDepth 20000
open Go.RowKit
attribute [local go_sem] undef
set_option maxHeartbeats 20000000 in
theorem dappend_new (A:Option Addr) (n c:Nat) (room fuse:Int) (down:Bool) (nm:ByteArray) (Ab:Option Addr) (nb cb:Nat) (bs:List Nat) (fs:List FileD) (r:DiskD × Int) (S:Nat→Prop) (w:World) (hS:∀ b,S b→b < w.heap.size) (hf:FilesIn w S A fs) (hn:fs.length=n) (hnc:n≤c) (hcm:c≤maxLen) (hr:inI room) (hfu:inI fuse) (hsh:shortB fs=true) (hnm:nm.size≤100) (hb:BysIn w S Ab bs) (hbn:bs.length=nb) (hbc:nb≤cb) (hbm:cb≤maxLen) (hbl:nb≤70000) (hv:appendD ⟨fs,room,fuse,down⟩ nm bs=r) (hq:firstE ⟨fs,room,fuse,down⟩ nm nm=0) (hq2:appE ⟨fs,room,fuse,down⟩ nm bs=0) (f2:Int) (dn2:Bool) (x2:Int) (hsp:spentD fuse down=((f2,dn2),x2)) (hl:look nm fs=none) :
  Calls Try.prog 32 #[.agg #[.slice A n c,.int .i64 room,.int .i64 fuse,.bool down],.string nm,.slice Ab nb cb] w (RetOp S w r):=by
 have HCP:=Lib.hid (dcopy_fr A n c room fuse down fs S w hS hf hn hnc hcm hsh)
 have hus:=used_short hsh
 obtain ⟨y,hy⟩:∃ y,firstE ⟨fs,room,fuse,down⟩ nm nm=y:=⟨_,rfl⟩
 obtain ⟨u,hu⟩:∃ u,used fs=u:=⟨_,rfl⟩
 have HAL:=Lib.hid (allowed_fr n room fuse down nm fs y w hn hr hfu hsh hnm hy)
 have HUS:=Lib.hid (used_fr n room fuse down fs u w hn hsh hu)
 have HN:=Lib.hid hn
 have HU:=Lib.hid hu
 have hu70:u≤70000:=by rw [← hu];exact hus.1
 have hn70:n≤70:=by rw [← hn];exact hus.2
 obtain rfl:0=y:=by rw [← hy,hq]
 have hrt:=(first_zero.1 hq).1
 have hfz:=((right_iff _).1 hrt).2.1
 have hrow:Row fs:=((right_iff _).1 hrt).2.2.2.2.1
 have hrv:r=(⟨appF fs nm bs,room,f2,dn2⟩,x2):=by
  rw [← hv]
  rcases op_app ⟨fs,room,fuse,down⟩ nm bs with ⟨h1,_⟩ | ⟨_,_,_,⟨h1,_⟩ | ⟨g2,e2,y2,h1,h2,h3⟩⟩
  ·exact absurd hq h1
  ·rw [hq2] at h1;cases h1
  ·rw [h3]
   have h4:((g2,e2),y2)=((f2,dn2),x2):=by rw [← h2,← hsp]
   injection h4 with h4 h5
   injection h4 with h4 h6
   rw [h4,h5,h6]
 have hroom:¬ (room < (u:Int)+(nb:Int))∧(look nm fs=none→n < 64):=by
  obtain ⟨a1,a2⟩:=app_zero hq2
  simp only [hu,hbn] at a1
  exact ⟨by omega,fun h=>by have:=a2 h;simp only at this;omega⟩
 have hz:(u:Int)+(nb:Int)≤room:=by omega
 have hzd:decide (room < (u:Int)+(nb:Int))=false:=decide_eq_false hroom.1
 obtain ⟨p,hp⟩:∃ p,placeN nm fs=p:=⟨_,rfl⟩
 have HPL:=Lib.hid (place_fr n nm fs p false w hn hsh hrow hp (by rw [hl];rfl))
 have HSP:Hid (∀ A1 n1 c1 W,Calls Try.prog 54 #[.agg #[.slice A1 n1 c1,.int .i64 room,.int .i64 fuse,.bool down]] W fun e w'=>e = .returned (.tuple #[.agg #[.slice A1 n1 c1,.int .i64 room,.int .i64 f2,.bool dn2],.int .i64 x2])∧Below W.heap.size W w') :=
  Lib.hid (fun A1 n1 c1 W=>dspent A1 n1 c1 room fuse down f2 dn2 x2 W hfu hfz hsp)
 have hwr:IntKind.i64.wrap ((u:Int)+(nb:Int))=(u:Int)+(nb:Int):=by rw [IntKind.wrap_i64];omega
 have HBB:Hid (∀ W,Below w.heap.size w W→Bys W w.heap.size Ab bs):=Lib.hid (fun W h=>(hb.bys hS).below h)
 have HBN:=Lib.hid hbn
 have hn64:n < 64:=hroom.2 hl
 have h64:((n:Int) == 64)=false:=by simp;omega
 have HNM:Hid (nm.size≤maxLen):=Lib.hid (by unfold maxLen;omega)
 have hpn:p≤n:=by rw [← hp,← hn];exact place_le _ _
 have HAPP:Hid (appF fs nm bs=(fs.take p++⟨nm,[],0⟩ :: fs.drop p).set p ⟨nm,[]++bs,0⟩):=Lib.hid (by
  have h1:appF fs nm bs=withF ⟨nm,[]++bs,0⟩ fs:=by unfold appF oldOf;rw [hl];rfl
  have h2:=with_here (f:=⟨nm,[]++bs,0⟩) hrow hl
  rw [h1,h2]
  show fs.take (placeN nm fs)++_ :: fs.drop (placeN nm fs)=_
  rw [hp,List.set_append_right _ _ (by rw [List.length_take];omega),List.length_take,show p - min p fs.length=0 by omega,List.set_cons_zero])
 have HR2:Hid (r=(⟨appF fs nm bs,room,f2,dn2⟩,x2)):=Lib.hid hrv
 clear hf hn hnc hcm hsh hv hS hb hbn hbc hbm hy hu hq hq2 hus hrt hrow hp hl hrv hroom hfz hsp
 go_enter Try.func32,Try.ntmps32
 go_wp2_with (first
  |((with_reducible refine HCP.out.mono ?_);rintro e w1 ⟨A1,c1,S1,rfl,HO1,HAP,HS1,F1⟩;obtain ⟨b0,b1,b2,b3,q0,q1,q2,q3,bf0,bf1,bf2,bf3,qf0,qf1,qf2,qf3⟩:=F1.out.cells;have F2:=Lib.hid (F1.out.setBox (.slice A1 n c1) (.int .i64 room) (.int .i64 fuse) (.bool down)))
  |((with_reducible refine (HAL.out _ _ _ _ _ _ _ _ _ _ _ _ _ F2.out HO1.out HS1.out).mono ?_);rintro e wa ⟨rfl,hga⟩;have Fa:=Lib.hid (F2.out.below hga);obtain ⟨ca0,ca1,ca2,ca3,caq0,caq1,caq2,caq3,caf0,caf1,caf2,caf3,cag0,cag1,cag2,cag3⟩:=Fa.out.cells)
  |((with_reducible refine (HPL.out _ _ _ _ _ _ _ _ _ _ _ _ _ Fa.out HO1.out HS1.out).mono ?_);rintro e w2 ⟨rfl,hg2⟩;have F3:=Lib.hid (Fa.out.below hg2);obtain ⟨cb0,cb1,cb2,cb3,cbq0,cbq1,cbq2,cbq3,cbf0,cbf1,cbf2,cbf3,cbg0,cbg1,cbg2,cbg3⟩:=F3.out.cells))
 go_cut [44] from 27 to 43 (fun v wx=>v = .bool false∧DFr 24 w w1 wx (.slice A1 n c1) (.int .i64 room) (.int .i64 fuse) (.bool down) (.slice none 0 0) (.int .i64 0) (.int .i64 0) (.bool false))
 case first =>
  go_region_held3 (fun w'=>w'.cell? ⟨w.heap.size,0,none⟩=some (.slice A1 n c1)∧w'.cell? ⟨w.heap.size,1,none⟩=some (.int .i64 room)∧w'.cell? ⟨w.heap.size,2,none⟩=some (.int .i64 fuse)∧w'.cell? ⟨w.heap.size,3,none⟩=some (.bool down))
   (first | exact ⟨cb0,cb1,cb2,cb3⟩ | exact ⟨cc0,cc1,cc2,cc3⟩)
   (first
   |(go_at_call 52;refine Calls.mono (HUS.out _ _ _ _ _ _ _ _ _ _ _ _ _ F3.out.drew HO1.out HS1.out) ?_;rintro e w4 ⟨rfl,hg4⟩;have F4:=Lib.hid (F3.out.drew.below hg4);obtain ⟨cc0,cc1,cc2,cc3,ccq0,ccq1,ccq2,ccq3,ccf0,ccf1,ccf2,ccf3,ccg0,ccg1,ccg2,ccg3⟩:=F4.out.cells))
  all_goals (go_wp2_with fail;go_meet;exact ⟨by first | rfl | simp,F4.out⟩)
 case rest =>
  obtain ⟨rfl,fr⟩:=hcut
  have FC:=Lib.hid fr
  obtain ⟨da0,da1,da2,da3,daq0,daq1,daq2,daq3,daf0,daf1,daf2,daf3,dag0,dag1,dag2,dag3⟩:=FC.out.cells
  clear fr
  have HIN:Hid (Calls Try.prog 53 #[.slice A1 n c1,.int .i64 (p:Nat),.slice (some ⟨wc.heap.size,0,none⟩) 1 1] (wc.alloc (.cells #[.string nm,.slice none 0 0,.int .i64 0] 51)) (InsPost (w.heap.size+2) S1 A1 p (.slice none 0 0) (n+1) (fs.take p++⟨nm,[],0⟩ :: fs.drop p) (wc.alloc (.cells #[.string nm,.slice none 0 0,.int .i64 0] 51)))):=Lib.hid (by
   have hfa:=FC.out.below ((Below.refl _ _).alloc (Nat.le_refl _) (.cells #[.string nm,.slice none 0 0,.int .i64 0] 51))
   have hsz:(wc.alloc (.cells #[.string nm,.slice none 0 0,.int .i64 0] 51)).heap.size=wc.heap.size+1:=by simp
   have hsc:=FC.out.size
   have htw:=FC.out.two
   have hoa:=hfa.own HO1.out (Nat.le_refl _) HS1.out
   have hob:=fun g e=>(HO1.out.block g e).2
   refine dinsert A1 n c1 p (w.heap.size+2) fs ⟨nm,[],0⟩ (.slice none 0 0) wc.heap.size S1 S1 _ hoa (by omega) (by omega) hpn (heap_alloc_new wc _) (by omega) (fun e=>by have:=hob _ e;omega) HNM.out rfl ⟨none,0,0,rfl,?_,rfl,Nat.le_refl _,by unfold maxLen;omega⟩ (fun _ h=>h) (fun b hb=>⟨by have:=HS1.out b hb;omega,fun e=>?_⟩)
   ·exact ints_in.1 (Ints.nil _ _ 0 _) |>.keep (alike_refl _ _) (fun b h=>absurd h (Nat.not_lt_zero b))
   ·rcases HO1.out.2.2.2 with ⟨h1,_⟩ | ⟨g,cur,h1,_,_,_,h5,_⟩
    ·rw [h1] at e;cases e
    ·rw [h1] at e;exact h5 (addr_eq e▸hb))
  have hszc:(wc.alloc (.cells #[.string nm,.slice none 0 0,.int .i64 0] 51)).heap.size=wc.heap.size+1:=by simp
  go_wp2_with ((with_reducible refine HIN.out.mono ?_);rintro e w5 ⟨A5,c5,rfl,ho5,hb5,hoff5,g5,cur5,rfl,eg5,hc5⟩;have F5:=Lib.hid ((FC.out.below ((Below.refl _ _).alloc (Nat.le_refl _) (.cells #[.string nm,.slice none 0 0,.int .i64 0] 51))).other hb5);have HO5:=Lib.hid ho5;have EG5:=Lib.hid eg5;have HC5:=Lib.hid hc5;have hs5:=hb5.size;clear ho5 eg5 hc5 hoff5;obtain ⟨db0,db1,db2,db3,dbq0,dbq1,dbq2,dbq3,dbf0,dbf1,dbf2,dbf3,dbg0,dbg1,dbg2,dbg3⟩:=F5.out.cells)
  have F6:=Lib.hid (F5.out.set0 (.slice (some ⟨g5,0,none⟩) (n+1) c5))
  have hg5:=HO5.out.block g5 rfl
  have hcap:=HO5.out.cap
  have hcm5:=hcap.2
  have hnc5:=hcap.1
  unfold maxLen at hcm5
  have hS5:¬ S1 g5:=by
   rcases HO5.out.2.2.2 with ⟨h1,_⟩ | ⟨g,cur,h1,_,_,_,h5,_⟩
   ·cases h1
   ·rw [← addr_eq h1];exact h5
  have hrs:cur5.size=c5 * 3∧RowAt w5 S1 cur5 (fs.take p++⟨nm,[],0⟩ :: fs.drop p):=by
   rcases HO5.out.2.2.2 with ⟨h1,_⟩ | ⟨g,cur,h1,_,h3,h4,_,h6⟩
   ·cases h1
   ·rw [addr_eq h1,EG5.out] at h3
    injection h3 with h3
    injection h3 with h3
    subst h3
    exact ⟨h4,h6⟩
  have hcs5:=hrs.1
  have HRW5:=Lib.hid hrs.2
  have HFP:Hid ((fs.take p++⟨nm,[],0⟩ :: fs.drop p)[p]?=some (⟨nm,[],0⟩:FileD)):=Lib.hid (by
   rw [List.getElem?_append_right (by rw [List.length_take];omega),List.length_take,show p - min p fs.length=0 by have:=HN.out;omega];rfl)
  have EG6:Hid ((w5.setCell ⟨w.heap.size,0,none⟩ (.slice (some ⟨g5,0,none⟩) (n+1) c5)).heap[g5]?=some (.cells cur5 51 (0,0))):=Lib.hid ((Below.heap_setCell _ _ _ _ (by show g5≠w.heap.size;omega)).trans EG5.out)
  have HAL6:Hid (∀ b,S1 b→(w5.setCell ⟨w.heap.size,0,none⟩ (.slice (some ⟨g5,0,none⟩) (n+1) c5)).heap[b]?=w5.heap[b]?):=Lib.hid (fun b hb=>Below.heap_setCell _ _ _ _ (by have:=HS1.out b hb;show b≠w.heap.size;omega))
  have hsz6:(w5.setCell ⟨w.heap.size,0,none⟩ (.slice (some ⟨g5,0,none⟩) (n+1) c5)).heap.size=w5.heap.size:=by simp [World.setCell]
  have hsc:=FC.out.size
  have htw:=FC.out.two
  clear da0 da1 da2 da3 daq0 daq1 daq2 daq3 daf0 daf1 daf2 daf3 dag0 dag1 dag2 dag3 db0 db1 db2 db3 dbq0 dbq1 dbq2 dbq3 dbf0 dbf1 dbf2 dbf3 dbg0 dbg1 dbg2 dbg3 hb5 hcap hrs F5 HIN
  generalize w5.setCell ⟨w.heap.size,0,none⟩ (.slice (some ⟨g5,0,none⟩) (n+1) c5)=w6 at *
  obtain ⟨da0,da1,da2,da3,daq0,daq1,daq2,daq3,daf0,daf1,daf2,daf3,dag0,dag1,dag2,dag3⟩:=F6.out.cells
  obtain ⟨z1,zf1⟩:=block_cell EG6.out (p * 3+1) _ HC5.out
  obtain ⟨A7,c7,w7,hrun,ho7,hgr7,hob7⟩:=run_append_data w6.drew none 0 0 [] Ab nb cb bs (w.heap.size+2) w.heap.size OwnBys.nil (HBB.out _ F6.out.low.drew) HBN.out (by omega) (by show w.heap.size+2≤w6.heap.size;omega)
  have hself:FileCells cur5 p ⟨nm,[],0⟩ (.slice none 0 0):=by
   obtain ⟨v,⟨s0,s1,s2,s3⟩,_⟩:=HRW5.out p _ HFP.out
   exact ⟨s0,HC5.out,s2,s3⟩
  have hdat:=own_data (W:=w6.drew) (W7:=w7) (base:=w.heap.size+2) (g:=g5) (p:=p) (n:=n+1) (c:=c5) (T:=51) (T8:=5) (S:=S1) (fs:=fs.take p++⟨nm,[],0⟩ :: fs.drop p) (cur:=cur5) (f:=⟨nm,[],0⟩) (Ad:=none) (nd:=0) (cd:=0) (A7:=A7) (n7:=0+nb) (c7:=c7) (bs7:=[]++bs)
   HO5.out.len hnc5 hcm5 hg5.1 (by show g5 < w6.heap.size;omega) EG6.out hcs5 HFP.out hself (fun j f' hj hf'=>by
    obtain ⟨v,k1,k2⟩:=HRW5.out j f' hf'
    exact ⟨v,k1,k2.keep (fun b o hb=>World.cell?_of_block (HAL6.out b hb)) (fun _ h=>h)⟩)
   (fun b hb=>by have:=HS1.out b hb;exact ⟨this.1,by show b < w6.heap.size;omega,fun e=>hS5 (e▸hb),by simp [Value.ownBlock]⟩) hgr7 (by simp [Value.ownBlock]) ho7 hob7
  rw [Nat.zero_add] at hrun hdat
  obtain ⟨e8,ho8⟩:=hdat
  have F7:=Lib.hid (F6.out.drew.other (below_grown (Below.refl (w.heap.size+2) w6.drew) hgr7 (by show w.heap.size+2≤w6.heap.size;omega) (fun b hb=>by simp [Value.ownBlock] at hb)))
  have EG7:=Lib.hid ((hgr7.block g5 (by show g5 < w6.heap.size;omega) (by simp [Value.ownBlock])).trans EG6.out)
  obtain ⟨dc0,dc1,dc2,dc3,dcq0,dcq1,dcq2,dcq3,dcf0,dcf1,dcf2,dcf3,dcg0,dcg1,dcg2,dcg3⟩:=F7.out.cells
  obtain ⟨y1,yf1⟩:=block_cell EG7.out (p * 3+1) _ HC5.out
  have hs7:=hgr7.size
  have HO8:=Lib.hid ho8
  have F8:=Lib.hid (F7.out.setOwn (g:=g5) (i:=p * 3+1) (by omega) (.slice A7 nb c7))
  have hne0:w.heap.size≠g5:=by omega
  have hne1:w.heap.size+1≠g5:=by omega
  clear ho7 hgr7 hob7 ho8 e8 hself
  have hip:(p:Int) < (n:Int)+1:=by omega
  go_wp2_with fail
  go_region_law (refine step_append_runI rfl _ _ 27 rfl _ _ (by simp [Act.eval,Act.put]) (by simp [Act.eval,Act.put]) hrun ?_)
  all_goals
   obtain ⟨dd0,dd1,dd2,dd3,ddq0,ddq1,ddq2,ddq3,ddf0,ddf1,ddf2,ddf3,ddg0,ddg1,ddg2,ddg3⟩:=F8.out.cells
   go_wp2_with ((with_reducible refine (HSP.out _ _ _ _).mono ?_);rintro e w9 ⟨rfl,hg9⟩;have F9:=Lib.hid (F8.out.below hg9);obtain ⟨de0,de1,de2,de3,deq0,deq1,deq2,deq3,def0,def1,def2,def3,deg0,deg1,deg2,deg3⟩:=F9.out.cells)
   refine bodyPost_ret (v:=.tuple #[.agg #[.slice (some ⟨g5,0,none⟩) (n+1) c5,.int .i64 room,.int .i64 f2,.bool dn2],.int .i64 x2]) (by simp [results,Try.results32,go_sem,deq0,deq1,deq2,deq3]) rfl ?_
   rw [HR2.out,HAPP.out]
   have F10:=F9.out.setRes (.slice (some ⟨g5,0,none⟩) (n+1) c5) (.int .i64 room) (.int .i64 f2) (.bool dn2)
   have hsz8:(w7.setCell ⟨g5,p * 3+1,none⟩ (.slice A7 nb c7)).heap.size=w7.heap.size:=by simp [World.setCell]
   exact F10.ret (F10.own HO8.out (Nat.le_refl _) (fun b hb=>⟨hb.1,by rw [hsz8];exact hb.2.1⟩)) (by omega) (fun b hb=>by have:=F10.size;rw [hsz8] at this;exact ⟨by have:=hb.1;omega,by have:=hb.2.1;omega⟩) _ _ _ _
end Go.Proofs.Ytlipgnenbdchmaa.disk
