/-
  DiskImpl11, DiskImpl12, DiskImpl13, DiskImpl14, DiskImpl15, DiskImpl15c
-/
import Derived.Test.YtalhdalinpdanaaGreatDoorMwl16
import Derived.Lib.AppendZerosOnto
import Derived.Lib.Overlaps
import Derived.Laws.Externs
import Derived.Laws.IdiomCopy
import Derived.Laws.NewBlocks
import Derived.Maps.AppendAt
import Derived.Shelf.Spec.SlicesInsert
import Derived.Deep.RegionHeld3
set_option linter.unusedVariables false
set_option linter.unusedSimpArgs false
section
namespace Go.Proofs.YtalhdalinpdanaaGreatDoor.disk
set_option maxRecDepth 20000
open Go.RowKit
def InsPost (base:Nat) (S:Nat→Prop) (A:Option Addr) (i:Nat) (v1:Value) (n' : Nat) (fs' : List FileD) (w:World) (e:Ending) (w' : World):Prop :=
 ∃ A' c',e = .returned (.slice A' n' c')∧OwnF w' base 79 S A' n' c' fs'∧Below base w w'∧(∀ b,b < w.heap.size→A≠some ⟨b,0,none⟩→w'.heap[b]?=w.heap[b]?) ∧
  ∃ g cur,A'=some ⟨g,0,none⟩∧w'.heap[g]?=some (.cells cur 79 (0,0))∧cur[i * 3+1]?=some v1
theorem own_row {w:World} {base n c:Nat} {T:TypeId} {S:Nat→Prop} {A:Option Addr} {fs:List FileD} (h:OwnF w base T S A n c fs):∃ xs:List Value,w.ownsRow base T 3 (.slice A n c) n xs∧RowAt w S xs.toArray fs:=by
 rcases h.2.2.2 with ⟨h1,h2,h3⟩ | ⟨g,cur,h1,h2,h3,h4,h5,h6⟩
 ·subst h1 h2 h3
  have hfs:fs=[]:=List.eq_nil_of_length_eq_zero h.1
  subst hfs
  exact ⟨[],World.ownsRow_nil _ _ _ _,fun j f hj=>by simp at hj⟩
 ·subst h1
  refine ⟨cur.toList.take (n * 3),⟨by rw [List.length_take,Array.length_toList,h4];have:=h.2.1;omega,.inr ⟨g,c,cur,rfl,h2,h3,h.2.1,h.2.2.1,h4,rfl⟩⟩,fun j f hj=>?_⟩
  obtain ⟨v,k1,k2⟩:=h6 j f hj
  have hl:=(List.getElem?_eq_some_iff.1 hj).1
  have:=h.1
  refine ⟨v,k1.move fun q hq=>?_,k2⟩
  rw [← Array.getElem?_toList]
  show (cur.toList.take (n * 3))[j * 3+q]?=_
  rw [List.getElem?_take,if_pos (by omega),Array.getElem?_toList]
theorem run_copy3 {P:Program} (w:World) (dT sT ty elem:TypeId) (b o dLen dCap:Nat) (a:Addr) (sLen sCap k:Nat) (cs:List Value)
  (hu:P.underlying dT=some (.slice elem)) (hs:(P.info? elem).map (·.size)=some 3) (hk:Nat.min sLen dLen=k) (hn:cs.length=k * 3)
  (hsrc:∀ j v,cs[j]?=some v→w.cell? (a.add j)=some v) (hc:∀ j,j < cs.length→(w.cell? ⟨b,o+j,none⟩).isSome=true) (hf:∀ j,j < cs.length→w.frozen? ⟨b,o+j,none⟩=false) (h1:∀ v ∈ cs,v.oneCell'=true) :
  (Builtin.copy_ #[dT,sT] ty #[.slice (some ⟨b,o,none⟩) dLen dCap,.slice (some a) sLen sCap]).run P w = .ok (goInt k) (w.setCells b o cs):=by
 have hl:=run_loadCells_list (P:=P) w a cs hsrc
 have hst:=run_storeCells_cells (P:=P) b o cs 0 w (by simpa using hc) (by simpa using hf) h1
 cases hq:P.info? elem with
 |none=>simp [hq] at hs
 |some i =>
  have hi:i.size=3:=by simpa [hq] using hs
  rw [hn] at hl
  simp [Builtin.copy_,run_underlying hu,Builtin.lenOf,Builtin.firstCells,sizeOf,typeInfo,hq,hi,hk,hl,hst]
set_option maxHeartbeats 4000000 in
theorem dinsert_end (A:Option Addr) (n c base:Nat) (fs:List FileD) (f:FileD) (v1:Value) (vb:Nat) (S S' : Nat→Prop) (w:World) (ho:OwnF w base 79 S A n c fs) (hbase:base≤w.heap.size) (hbig:n≤1000) (hV:w.heap[vb]?=some (.cells #[.string f.name,v1,.int .i64 f.sure] 79 (0,0)))
  (hnm:f.name.size≤maxLen) (hwf:(Lit.int .i64 f.sure).wf=true) (hd:rdData w S' v1 f.data) (hSS:∀ b,S b→S' b) (hS' : ∀ b,S' b→b < w.heap.size∧A≠some ⟨b,0,none⟩) :
  Calls Tryz.prog 109 #[.slice A n c,.int .i64 (n:Nat),.slice (some ⟨vb,0,none⟩) 1 1] w (InsPost base S' A n v1 (n+1) (fs.take n++f :: fs.drop n) w):=by
 obtain ⟨xs,hown,hrow⟩:=own_row ho
 have hcap:=ho.cap
 have hlen:=ho.len
 have hxl:xs.length=n * 3:=hown.1
 have hv1:v1.oneCell'=true:=by obtain ⟨_,_,_,rfl,_⟩:=hd;rfl
 have hinfo:Hid ((Tryz.prog.info? 79).map (fun i=>(i.zero,i.size,i.bytes))=some (some (.agg #[.string ⟨#[]⟩,.slice none 0 0,.int .i64 0]),3,48)):=Lib.hid (by kernel_rfl)
 obtain ⟨i0,hi0,hz0,hsz0,hby0⟩:=info_parts hinfo.out
 obtain ⟨v',w',hrun,h2,h3,h4,h5⟩:=run_append_own_at (P:=Tryz.prog) (w:=w) base 25 25 79 i0 _ 3 48 Tryz.underlying25 hi0 hz0 hsz0 hby0 rfl (by omega) _ n xs hown ⟨vb,0,none⟩ 1 1 [.string f.name,v1,.int .i64 f.sure] rfl
  (fun j u hj=>by
   rw [Addr.add_lit,Nat.zero_add,cell_of_row w vb j _ _ _ hV,← Array.getElem?_toList]
   exact hj)
  (by intro u hu;simp at hu;rcases hu with rfl | rfl | rfl<;>first | rfl | exact hv1)
  (by unfold maxLen;omega) (by omega) hbase
 have HRUN:=Lib.hid hrun
 have hfin:∃ A' c',v' = .slice A' (n+1) c'∧OwnF w' base 79 S' A' (n+1) c' (fs.take n++f :: fs.drop n)∧Below base w w'∧(∀ b,b < w.heap.size→A≠some ⟨b,0,none⟩→w'.heap[b]?=w.heap[b]?) ∧
   ∃ g cur,A'=some ⟨g,0,none⟩∧w'.heap[g]?=some (.cells cur 79 (0,0))∧cur[n * 3+1]?=some v1:=by
  have hob:∀ b,A≠some ⟨b,0,none⟩→some b≠(Value.slice A n c).ownBlock:=fun b hb e=>by
   rcases hown.2 with ⟨hv,_⟩ | ⟨g,cap,cur,hv,_⟩
   ·rw [hv] at e;cases e
   ·injection hv with hv
    subst hv
    injection e with e
    exact hb (by rw [e])
  have hoff:∀ b,b < w.heap.size→A≠some ⟨b,0,none⟩→w'.heap[b]?=w.heap[b]?:=fun b h1 h2=>h3.block b h1 (hob b h2)
  rcases h2.2 with ⟨_,h0⟩ | ⟨g',cap,cur',hv,hb',hE',hc1,hc2,hc3,htk⟩
  ·omega
  ·subst hv
   have hk:∀ k,k < (n+1) * 3→cur'[k]?=(xs++[Value.string f.name,v1,.int .i64 f.sure])[k]?:=fun k hk=>by
    rw [← htk,List.getElem?_take,if_pos hk,Array.getElem?_toList]
   refine ⟨some ⟨g',0,none⟩,cap,rfl,⟨by rw [List.length_append,List.length_take,List.length_cons,List.length_drop];omega,hc1,hc2,.inr ⟨g',cur',rfl,hb',hE',hc3,fun hS=>?_,?_⟩⟩,(Below.refl base w).grown h3 hbase (fun g hg=>(hown.lt g hg).1),hoff,g',cur',rfl,hE',?_⟩
   ·have h6:=hS' g' hS
    rcases h5 with h5 | h5
    ·exact hob g' h6.2 h5
    ·have h5' : g'=w.heap.size:=by simpa [Value.ownBlock] using h5
     omega
   ·refine hrow.more (m:=0) (v0:=v1) (fun b o hSb=>World.cell?_of_block (hoff b (hS' b (hSS b hSb)).1 (hS' b (hSS b hSb)).2)) hSS (by omega) (fun k hk'=>?_) (fun t ht=>absurd ht (by omega)) ⟨?_,?_,?_,hnm,hwf⟩ (hd.keep (fun b o hSb=>World.cell?_of_block (hoff b (hS' b hSb).1 (hS' b hSb).2)) (fun _ h=>h))
    ·rw [hk k (by omega),List.getElem?_append_left (by omega)]
     exact (Array.getElem?_toList (xs:=xs.toArray) (i:=k))
    ·rw [hk _ (by omega),List.getElem?_append_right (by omega),hxl,Nat.sub_self];rfl
    ·rw [hk _ (by omega),List.getElem?_append_right (by omega),hxl,show n * 3+1 - n * 3=1 by omega];rfl
    ·rw [hk _ (by omega),List.getElem?_append_right (by omega),hxl,show n * 3+2 - n * 3=2 by omega];rfl
   ·rw [hk _ (by omega),List.getElem?_append_right (by omega),hxl,show n * 3+1 - n * 3=1 by omega];rfl
 obtain ⟨A',c',rfl,hfin⟩:=hfin
 have HFIN:=Lib.hid hfin
 have hcm:=hcap.2
 have hnc:=hcap.1
 unfold maxLen at hcm
 have hnone:A=none→n=0∧c=0:=fun e=>by
  rcases ho.2.2.2 with ⟨_,h1,h2⟩ | ⟨g,cur,h1,_⟩
  ·exact ⟨h1,h2⟩
  ·rw [e] at h1;cases h1
 clear hinfo hi0 hz0 hsz0 hby0 hrun h2 h3 h4 h5 hfin hown hrow ho hcap hxl hd hV hSS hS' hlen
 cases A with
 |none =>
  obtain ⟨rfl,rfl⟩:=hnone rfl
  go_enter Tryz.func109,Tryz.ntmps109
  go_wp2_with (at_builtin;refine Lib.wpList_append_run _ rfl _ _ _ _ rfl _ _ rfl rfl _ _ HRUN.out ?_)
  refine bodyPost_ret (v:=.slice A' (0+1) c') (by simp [results,Tryz.results109,go_sem]) rfl ?_
  exact ⟨A',c',rfl,HFIN.out⟩
 |some a =>
  obtain ⟨ab,ao,asp⟩:=a
  clear hnone
  go_enter Tryz.func109,Tryz.ntmps109
  go_wp2_with (at_builtin;refine Lib.wpList_append_run _ rfl _ _ _ _ rfl _ _ rfl rfl _ _ HRUN.out ?_)
  all_goals
   refine bodyPost_ret (v:=.slice A' (n+1) c') (by simp [results,Tryz.results109,go_sem]) rfl ?_
   exact ⟨A',c',rfl,HFIN.out⟩
theorem hcells3 {w:World} {g c:Nat} {cur:Array Value} {T:TypeId} (h:w.heap[g]?=some (.cells cur T (0,0))) (hcs:cur.size=c * 3) {k:Nat} (hk:k < c * 3):(w.cell? ⟨g,k,none⟩).isSome=true∧w.frozen? ⟨g,k,none⟩=false:=by
 refine ⟨?_,frozen_of_row w g k _ _ h⟩
 rw [cell_of_row w g k _ _ _ h,Array.getElem?_eq_getElem (by omega)];rfl
set_option maxHeartbeats 6000000 in
theorem dinsert_shift (g n c i m base:Nat) (cur:Array Value) (fs:List FileD) (f:FileD) (v1:Value) (vb:Nat) (S S' : Nat→Prop) (w:World) (hn:fs.length=n) (him:n=i+m) (hm:0 < m) (hroom:n+1≤c) (hcm:c≤9223372036854775807) (hE:w.heap[g]?=some (.cells cur 79 (0,0))) (hcs:cur.size=c * 3) (hrow:RowAt w S cur fs)
  (hbase:base≤g) (hgw:g < w.heap.size) (hvb:vb≠g) (hV:w.heap[vb]?=some (.cells #[.string f.name,v1,.int .i64 f.sure] 79 (0,0)))
  (hnm:f.name.size≤maxLen) (hwf:(Lit.int .i64 f.sure).wf=true) (hd:rdData w S' v1 f.data) (hSS:∀ b,S b→S' b) (hS' : ∀ b,S' b→b < w.heap.size∧b≠g) :
  Calls Tryz.prog 109 #[.slice (some ⟨g,0,none⟩) n c,.int .i64 (i:Nat),.slice (some ⟨vb,0,none⟩) 1 1] w (InsPost base S' (some ⟨g,0,none⟩) i v1 (n+1) (fs.take i++f :: fs.drop i) w):=by
 have HIM:=Lib.hid him
 have hv1:v1.oneCell'=true:=by obtain ⟨_,_,_,rfl,_⟩:=hd;rfl
 obtain ⟨cs,hcsd⟩:∃ cs,cs=cellsFrom cur i m:=⟨_,rfl⟩
 obtain ⟨vs,hvs⟩:∃ vs:List Value,vs=[.string f.name,v1,.int .i64 f.sure]:=⟨_,rfl⟩
 have hcl:cs.length=m * 3:=by rw [hcsd];exact from_len (by omega)
 have hvl:vs.length=3:=by rw [hvs];rfl
 have h1c:∀ u ∈ cs,u.oneCell'=true:=by rw [hcsd];exact from_one hrow (by omega)
 have h1v:∀ u ∈ vs,u.oneCell'=true:=by rw [hvs];intro u hu;simp at hu;rcases hu with rfl | rfl | rfl<;>first | rfl | exact hv1
 have hsz3:(Tryz.prog.info? 79).map (·.size)=some 3:=by kernel_rfl
 have hz51:∀ w,(Go.sizeOf 79).run Tryz.prog w = .ok 3 w:=fun w=>by kernel_rfl
 have hov:∀ lb cb,(callFunc 135 #[.slice (some ⟨vb,0,none⟩) 1 1,.slice (some ⟨g,(i+1) * 3,none⟩) lb cb]).run Tryz.prog w = .ok (.value (.bool false)) w:=fun lb cb=>by
  rw [run_callFunc_extern Tryz.func135 (by kernel_rfl) (by kernel_rfl) (by kernel_rfl) (e:=Extern.SlicesOverlaps.overlaps #[25,25] #[4]) (by kernel_rfl),
   Lib.run_overlaps_apart w 25 4 79 Tryz.underlying25 3 hz51 ⟨vb,0,none⟩ ⟨g,(i+1) * 3,none⟩ 1 1 lb cb hvb 79 79 3 cur.size (by show w.shape? vb=_;unfold World.shape?;rw [hV];rfl) (by show w.shape? g=_;unfold World.shape?;rw [hE]) (by omega) (frozen_of_row w vb 0 _ _ hV) (frozen_of_row w vb 3 _ _ hV)]
  rfl
 have hcp1:∀ ty dc sc,(Builtin.copy_ #[25,25] ty #[.slice (some ⟨g,(i+1) * 3,none⟩) (n - i) dc,.slice (some ⟨g,i * 3,none⟩) (n+1 - i) sc]).run Tryz.prog w.drew = .ok (goInt m) (w.drew.setCells g ((i+1) * 3) cs):=fun ty dc sc =>
  run_copy3 w.drew _ _ ty 79 g ((i+1) * 3) (n - i) dc ⟨g,i * 3,none⟩ (n+1 - i) sc m cs Tryz.underlying25 hsz3 (by simp only [Nat.min_def];split<;>omega) hcl
   (fun j v hj=>by
    have hjl:=(List.getElem?_eq_some_iff.1 hj).1
    rw [Addr.add_lit,cell_of_row w.drew g _ _ _ _ hE,← hj,hcsd,from_get (by omega)])
   (fun j hj=>(hcells3 (w:=w.drew) hE hcs (by omega)).1) (fun j hj=>(hcells3 (w:=w.drew) hE hcs (k:=(i+1) * 3+j) (by omega)).2) h1c
 obtain ⟨W1,hW1⟩:∃ W1,W1=w.drew.setCells g ((i+1) * 3) cs:=⟨_,rfl⟩
 have hE1:W1.heap[g]?=some (.cells (laid cur ((i+1) * 3) cs) 79 (0,0)):=by rw [hW1];exact heap_cells_self (w:=w.drew) _ _ hE
 have hV1:W1.heap[vb]?=some (.cells #[.string f.name,v1,.int .i64 f.sure] 79 (0,0)):=by rw [hW1,heap_cells _ _ hvb];exact hV
 have hcs1:(laid cur ((i+1) * 3) cs).size=c * 3:=by rw [laid_size];exact hcs
 have hcp2:∀ ty dc,(Builtin.copy_ #[25,25] ty #[.slice (some ⟨g,i * 3,none⟩) (n+1 - i) dc,.slice (some ⟨vb,0,none⟩) 1 1]).run Tryz.prog W1 = .ok (goInt 1) (W1.setCells g (i * 3) vs):=fun ty dc =>
  run_copy3 W1 _ _ ty 79 g (i * 3) (n+1 - i) dc ⟨vb,0,none⟩ 1 1 1 vs Tryz.underlying25 hsz3 (by simp only [Nat.min_def];split<;>omega) (by rw [hvl])
   (fun j v hj=>by
    rw [Addr.add_lit,Nat.zero_add,cell_of_row W1 vb _ _ _ _ hV1,← Array.getElem?_toList,← hj,hvs])
   (fun j hj=>(hcells3 hE1 hcs1 (by omega)).1) (fun j hj=>(hcells3 hE1 hcs1 (k:=i * 3+j) (by omega)).2) h1v
 have HFIN:Hid (OwnF (W1.setCells g (i * 3) vs) base 79 S' (some ⟨g,0,none⟩) (n+1) c (fs.take i++f :: fs.drop i)∧Below base w (W1.setCells g (i * 3) vs)∧(∀ b,b < w.heap.size→(some ⟨g,0,none⟩:Option Addr)≠some ⟨b,0,none⟩→(W1.setCells g (i * 3) vs).heap[b]?=w.heap[b]?) ∧
   ∃ g' cur',(some ⟨g,0,none⟩:Option Addr)=some ⟨g',0,none⟩∧(W1.setCells g (i * 3) vs).heap[g']?=some (.cells cur' 79 (0,0))∧cur'[i * 3+1]?=some v1):=Lib.hid (by
  have hoff:∀ b,b≠g→(W1.setCells g (i * 3) vs).heap[b]?=w.heap[b]?:=fun b hb=>by
   rw [heap_cells _ _ hb,hW1];exact heap_cells (w:=w.drew) _ _ hb
  refine ⟨⟨by rw [List.length_append,List.length_take,List.length_cons,List.length_drop];omega,hroom,by unfold maxLen;omega,.inr ⟨g,_,rfl,hbase,heap_cells_self _ _ hE1,by rw [laid_size,laid_size];exact hcs,fun h=>(hS' g h).2 rfl,?_⟩⟩,?_,fun b _ hb=>hoff b (fun e=>hb (by rw [e])),g,_,rfl,heap_cells_self _ _ hE1,by rw [laid_in (by omega) (by omega),hvs];rfl⟩
  ·refine hrow.more (m:=m) (v0:=v1) (fun b o hSb=>World.cell?_of_block (hoff b (hS' b (hSS b hSb)).2)) hSS (by omega) (fun k hk=>?_) (fun t ht=>?_) ⟨?_,?_,?_,hnm,hwf⟩ (hd.keep (fun b o hSb=>World.cell?_of_block (hoff b (hS' b hSb).2)) (fun _ h=>h))
   ·rw [laid_off (by omega),laid_off (by omega)]
   ·rw [laid_off (by omega),laid_in (by omega) (by omega),hcsd,from_get (by omega)]
   ·exact (laid_in (cur:=laid cur ((i+1) * 3) cs) (o:=i * 3) (vs:=vs) (t:=0) (by omega) (by omega)).trans (by rw [hvs];rfl)
   ·rw [laid_in (by omega) (by omega),hvs];rfl
   ·rw [laid_in (by omega) (by omega),hvs];rfl
  ·rw [hW1];exact below_cells (below_cells (Below.refl _ _).drew hbase _ _) hbase _ _)
 have HW1:=Lib.hid hW1
 rw [← hW1] at hcp1
 have hz2:¬ ((i:Int)=(n:Int)):=by omega
 have hw1:IntKind.i64.wrap ((i:Int)+1)=(i:Int)+1:=by rw [IntKind.wrap_i64];omega
 have hw2:IntKind.i64.wrap ((n:Int)+1)=(n:Int)+1:=by rw [IntKind.wrap_i64];omega
 have hb1:(0:Int)≤(i:Int)+1:=by omega
 have hin:i≤n:=by omega
 have htn:((i:Int)+1).toNat=i+1:=by omega
 have htn2:((n:Int)+1).toNat=n+1:=by omega
 have hb2:¬ (c=i+1):=by omega
 have hb3:(i:Int)≤(n:Int)+1:=by omega
 have hb4:¬ (c=i):=by omega
 have hb5:(i:Int)+1≤(n:Int)+1:=by omega
 have hb6:¬ ((c:Int) < (n:Int)+1):=by omega
 clear hE hrow hn hE1 hV1 hcs1 hV hnm hwf hd hSS hS' him hcl hvl hvs hcsd h1c h1v hW1 hcs hsz3 hz51 hv1
 go_enter Tryz.func109,Tryz.ntmps109
 go_wp2_with (simp only [hov])
 go_region_law (refine step_copy_runI rfl _ _ 25 25 rfl _ _ (by simp [Act.eval,Act.put]) (by simp [Act.eval,Act.put]) (hcp1 _ _ _) ?_)
 go_wp2_with (at_builtin;refine wpList_copy_runI _ rfl _ _ 25 25 rfl _ _ rfl rfl (hcp2 _ _) ?_)
 refine bodyPost_ret (v:=.slice (some ⟨g,0,none⟩) (n+1) c) (by simp [results,Tryz.results109,go_sem]) rfl ?_
 exact ⟨_,c,rfl,HFIN.out⟩
end Go.Proofs.YtalhdalinpdanaaGreatDoor.disk
end
section
namespace Go.Proofs.YtalhdalinpdanaaGreatDoor.disk
set_option maxRecDepth 20000
open Go.RowKit
abbrev zAgg:Value:=.agg #[.string ⟨#[]⟩,.slice none 0 0,.int .i64 0]
theorem zero_size (n:Nat):(Builtin.zeroCells zAgg.cells n).size=n * 3:=by
 unfold Builtin.zeroCells
 rw [Array.size_map,Array.size_range]
 rfl
set_option maxHeartbeats 6000000 in
theorem dinsert_grow (g n c i m base:Nat) (cur:Array Value) (fs:List FileD) (f:FileD) (v1:Value) (vb:Nat) (S S' : Nat→Prop) (w:World) (hn:fs.length=n) (him:n=i+m) (hm:0 < m) (hnc:n≤c) (hroom:c < n+1) (hbig:n≤1000) (hE:w.heap[g]?=some (.cells cur 79 (0,0))) (hcs:cur.size=c * 3) (hrow:RowAt w S cur fs)
  (hbase:base≤w.heap.size) (hgw:g < w.heap.size) (hvw:vb < w.heap.size) (hV:w.heap[vb]?=some (.cells #[.string f.name,v1,.int .i64 f.sure] 79 (0,0)))
  (hnm:f.name.size≤maxLen) (hwf:(Lit.int .i64 f.sure).wf=true) (hd:rdData w S' v1 f.data) (hSS:∀ b,S b→S' b) (hS' : ∀ b,S' b→b < w.heap.size) :
  Calls Tryz.prog 109 #[.slice (some ⟨g,0,none⟩) n c,.int .i64 (i:Nat),.slice (some ⟨vb,0,none⟩) 1 1] w (InsPost base S' (some ⟨g,0,none⟩) i v1 (n+1) (fs.take i++f :: fs.drop i) w):=by
 have HIM:=Lib.hid him
 have hv1:v1.oneCell'=true:=by obtain ⟨_,_,_,rfl,_⟩:=hd;rfl
 obtain ⟨cs,hcsd⟩:∃ cs,cs=cellsFrom cur i m:=⟨_,rfl⟩
 obtain ⟨vs,hvs⟩:∃ vs:List Value,vs=[.string f.name,v1,.int .i64 f.sure]:=⟨_,rfl⟩
 obtain ⟨os,hos⟩:∃ os,os=cellsFrom cur 0 i:=⟨_,rfl⟩
 have hcl:cs.length=m * 3:=by rw [hcsd];exact from_len (by omega)
 have hol:os.length=i * 3:=by rw [hos];exact from_len (by omega)
 have hvl:vs.length=3:=by rw [hvs];rfl
 have h1c:∀ u ∈ cs,u.oneCell'=true:=by rw [hcsd];exact from_one hrow (by omega)
 have h1v:∀ u ∈ vs,u.oneCell'=true:=by rw [hvs];intro u hu;simp at hu;rcases hu with rfl | rfl | rfl<;>first | rfl | exact hv1
 have hsz3:(Tryz.prog.info? 79).map (·.size)=some 3:=by kernel_rfl
 have hinfo:Hid ((Tryz.prog.info? 79).map (fun i=>(i.zero,i.size,i.bytes))=some (some zAgg,3,48)):=Lib.hid (by kernel_rfl)
 obtain ⟨i0,hi0,hz0,hzs,hzb⟩:=info_parts hinfo.out
 have hkk:(n:Int)+1 - (i:Int)=((n+1 - i:Nat):Int):=by omega
 have hik:i+(n+1 - i)=n+1:=by omega
 have hold:(Builtin.firstCells i0.size i (.slice (some ⟨g,0,none⟩) i c)).run Tryz.prog w.drew = .ok os.toArray w.drew:=by
  rw [hzs]
  exact run_firstCells_some w.drew 3 i ⟨g,0,none⟩ i c os hol (fun j v hj=>by
   have hjl:=(List.getElem?_eq_some_iff.1 hj).1
   rw [Addr.add_lit,cell_of_row w.drew g _ _ _ _ hE,← hj,hos,from_get (by omega)])
 obtain ⟨G,hG⟩:∃ G,G=grownCap w (n+1) c 79:=⟨_,rfl⟩
 obtain ⟨ROW,hROW⟩:∃ ROW:Array Value,ROW=os.toArray++Builtin.zeroCells zAgg.cells (n+1 - i)++Builtin.zeroCells zAgg.cells (G - (n+1)):=⟨_,rfl⟩
 have hrz:∀ ty,(Builtin.append_ #[25,3] ty #[.slice (some ⟨g,0,none⟩) i c,.int .i64 ((n:Int)+1 - (i:Int))]).run Tryz.prog w = .ok (.slice (some ⟨w.heap.size,0,none⟩) (n+1) G) (w.drew.alloc (.cells ROW 79)):=fun ty=>by
  have h:=Lib.run_append_grow_zeros w 25 3 ty 79 i0 zAgg .i64 .i64 Tryz.underlying25 Tryz.underlying3 hi0 hz0 (some ⟨g,0,none⟩) i c os hold (n+1 - i) (by omega) (by omega) (by omega) (by omega) (by rw [hzb];omega) (by rw [hzb,hik];exact growslice_fits hroom (by omega))
  rw [hik] at h
  rw [hkk,hROW,hG]
  exact h
 have hGn:n+1≤G:=by rw [hG];exact grownCap_ge w _ _ _
 have hGm:G≤maxLen:=by rw [hG];exact grownCap_le_maxLen w (n+1) c _ (by unfold maxLen;omega)
 have hRl:ROW.size=G * 3:=by
  rw [hROW,Array.size_append,Array.size_append,zero_size,zero_size,List.size_toArray,hol]
  omega
 obtain ⟨W1,hW1⟩:∃ W1,W1=w.drew.alloc (.cells ROW 79):=⟨_,rfl⟩
 have hE1:W1.heap[w.heap.size]?=some (.cells ROW 79 (0,0)):=by rw [hW1];exact heap_alloc_new w.drew _
 have hold1:∀ b,b < w.heap.size→W1.heap[b]?=w.heap[b]?:=fun b hb=>by rw [hW1];exact Below.heap_alloc w.drew _ _ hb
 have hcpA:∀ ty dc,(Builtin.copy_ #[25,25] ty #[.slice (some ⟨w.heap.size,i * 3,none⟩) (n+1 - i) dc,.slice (some ⟨vb,0,none⟩) 1 1]).run Tryz.prog W1 = .ok (goInt 1) (W1.setCells w.heap.size (i * 3) vs):=fun ty dc =>
  run_copy3 W1 _ _ ty 79 w.heap.size (i * 3) (n+1 - i) dc ⟨vb,0,none⟩ 1 1 1 vs Tryz.underlying25 hsz3 (by simp only [Nat.min_def];split<;>omega) (by rw [hvl])
   (fun j v hj=>by
    rw [Addr.add_lit,Nat.zero_add,cell_of_row W1 vb _ _ _ _ ((hold1 vb hvw).trans hV),← Array.getElem?_toList,← hj,hvs])
   (fun j hj=>(hcells3 hE1 hRl (by omega)).1) (fun j hj=>(hcells3 hE1 hRl (k:=i * 3+j) (by omega)).2) h1v
 obtain ⟨W2,hW2⟩:∃ W2,W2=W1.setCells w.heap.size (i * 3) vs:=⟨_,rfl⟩
 have hE2:W2.heap[w.heap.size]?=some (.cells (laid ROW (i * 3) vs) 79 (0,0)):=by rw [hW2];exact heap_cells_self _ _ hE1
 have hold2:∀ b,b < w.heap.size→W2.heap[b]?=w.heap[b]?:=fun b hb=>by rw [hW2,heap_cells _ _ (by omega)];exact hold1 b hb
 have hR2:(laid ROW (i * 3) vs).size=G * 3:=by rw [laid_size];exact hRl
 have hcpB:∀ ty dc sc,(Builtin.copy_ #[25,25] ty #[.slice (some ⟨w.heap.size,(i+1) * 3,none⟩) (n - i) dc,.slice (some ⟨g,i * 3,none⟩) (n - i) sc]).run Tryz.prog W2.drew = .ok (goInt m) (W2.drew.setCells w.heap.size ((i+1) * 3) cs):=fun ty dc sc =>
  run_copy3 W2.drew _ _ ty 79 w.heap.size ((i+1) * 3) (n - i) dc ⟨g,i * 3,none⟩ (n - i) sc m cs Tryz.underlying25 hsz3 (by simp only [Nat.min_def];split<;>omega) hcl
   (fun j v hj=>by
    have hjl:=(List.getElem?_eq_some_iff.1 hj).1
    rw [Addr.add_lit,cell_of_row W2.drew g _ _ _ _ ((hold2 g hgw).trans hE),← hj,hcsd,from_get (by omega)])
   (fun j hj=>(hcells3 (w:=W2.drew) hE2 hR2 (by omega)).1) (fun j hj=>(hcells3 (w:=W2.drew) hE2 hR2 (k:=(i+1) * 3+j) (by omega)).2) h1c
 have HFIN:Hid (OwnF (W2.drew.setCells w.heap.size ((i+1) * 3) cs) base 79 S' (some ⟨w.heap.size,0,none⟩) (n+1) G (fs.take i++f :: fs.drop i)∧Below base w (W2.drew.setCells w.heap.size ((i+1) * 3) cs)∧(∀ b,b < w.heap.size→(some ⟨g,0,none⟩:Option Addr)≠some ⟨b,0,none⟩→(W2.drew.setCells w.heap.size ((i+1) * 3) cs).heap[b]?=w.heap[b]?) ∧
   ∃ g' cur',(some ⟨w.heap.size,0,none⟩:Option Addr)=some ⟨g',0,none⟩∧(W2.drew.setCells w.heap.size ((i+1) * 3) cs).heap[g']?=some (.cells cur' 79 (0,0))∧cur'[i * 3+1]?=some v1):=Lib.hid (by
  have hoff:∀ b,b < w.heap.size→(W2.drew.setCells w.heap.size ((i+1) * 3) cs).heap[b]?=w.heap[b]?:=fun b hb=>by
   rw [heap_cells (w:=W2.drew) _ _ (by omega)];exact hold2 b hb
  refine ⟨⟨by rw [List.length_append,List.length_take,List.length_cons,List.length_drop];omega,hGn,hGm,.inr ⟨w.heap.size,_,rfl,hbase,heap_cells_self (w:=W2.drew) _ _ hE2,by rw [laid_size,laid_size];exact hRl,fun h=>by have:=hS' _ h;omega,?_⟩⟩,?_,fun b hb _=>hoff b hb,w.heap.size,_,rfl,heap_cells_self (w:=W2.drew) _ _ hE2,by rw [laid_off (by omega),laid_in (by omega) (by omega),hvs];rfl⟩
  ·refine hrow.more (m:=m) (v0:=v1) (fun b o hSb=>World.cell?_of_block (hoff b (hS' b (hSS b hSb)))) hSS (by omega) (fun k hk=>?_) (fun t ht=>?_) ⟨?_,?_,?_,hnm,hwf⟩ (hd.keep (fun b o hSb=>World.cell?_of_block (hoff b (hS' b hSb))) (fun _ h=>h))
   ·rw [laid_off (by omega),laid_off (by omega),hROW,Array.append_assoc,Array.getElem?_append_left (by simp;omega),List.getElem?_toArray,hos,from_get (by omega),Nat.zero_mul,Nat.zero_add]
   ·rw [laid_in (by omega) (by omega),hcsd,from_get (by omega)]
   ·rw [laid_off (by omega)];exact (laid_in (cur:=ROW) (o:=i * 3) (vs:=vs) (t:=0) (by omega) (by omega)).trans (by rw [hvs];rfl)
   ·rw [laid_off (by omega),laid_in (by omega) (by omega),hvs];rfl
   ·rw [laid_off (by omega),laid_in (by omega) (by omega),hvs];rfl
  ·rw [hW2,hW1];exact below_cells (below_cells ((Below.refl base w).drew.alloc hbase _) hbase _ _).drew hbase _ _)
 rw [← hW1] at hrz
 rw [← hW2] at hcpA
 have hz2:¬ ((i:Int)=(n:Int)):=by omega
 have hz3:(c:Int) < (n:Int)+1:=by omega
 have hw1:IntKind.i64.wrap ((i:Int)+1)=(i:Int)+1:=by rw [IntKind.wrap_i64];omega
 have hw2:IntKind.i64.wrap ((n:Int)+1)=(n:Int)+1:=by rw [IntKind.wrap_i64];omega
 have hw3:IntKind.i64.wrap ((n:Int)+1 - (i:Int))=(n:Int)+1 - (i:Int):=by rw [IntKind.wrap_i64];omega
 have hb1:(0:Int)≤(i:Int)+1:=by omega
 have hin:i≤n:=by omega
 have hic:i≤c:=by omega
 have htn:((i:Int)+1).toNat=i+1:=by omega
 have hGi:¬ (G=i):=by omega
 have hGim:¬ (G=i+1):=by omega
 have hci:¬ (c=i):=by omega
 have hb3:(i:Int)≤(n:Int)+1:=by omega
 have hb5:(i:Int)+1≤(n:Int)+1:=by omega
 have hcm63:c≤9223372036854775807:=by omega
 unfold maxLen at hGm
 clear hE hrow hn hE1 hV hnm hwf hd hSS hS' him hcl hvl hvs hcsd h1c h1v hW1 hW2 hcs hsz3 hv1 hos hol hold hi0 hz0 hzs hzb hkk hik hROW hRl hold1 hold2 hE2 hR2 hG
 go_enter Tryz.func109,Tryz.ntmps109
 go_wp2_with (first
  |(at_builtin;refine Lib.wpList_append_run _ rfl _ _ _ _ rfl _ _ rfl rfl _ _ (hrz _) ?_)
  |(at_builtin;refine wpList_copy_runI _ rfl _ _ 25 25 rfl _ _ rfl rfl (hcpA _ _) ?_))
 go_region_law (refine step_copy_runI rfl _ _ 25 25 rfl _ _ (by simp [Act.eval,Act.put]) (by simp [Act.eval,Act.put]) (hcpB _ _ _) ?_)
 go_wp2
 refine bodyPost_ret (v:=.slice (some ⟨w.heap.size,0,none⟩) (n+1) G) (by simp [results,Tryz.results109,go_sem]) rfl ?_
 exact ⟨_,G,rfl,HFIN.out⟩
theorem dinsert (A:Option Addr) (n c i base:Nat) (fs:List FileD) (f:FileD) (v1:Value) (vb:Nat) (S S' : Nat→Prop) (w:World) (ho:OwnF w base 79 S A n c fs) (hbase:base≤w.heap.size) (hbig:n≤1000) (hi:i≤n) (hV:w.heap[vb]?=some (.cells #[.string f.name,v1,.int .i64 f.sure] 79 (0,0)))
  (hvw:vb < w.heap.size) (hvA:A≠some ⟨vb,0,none⟩) (hnm:f.name.size≤maxLen) (hwf:(Lit.int .i64 f.sure).wf=true) (hd:rdData w S' v1 f.data) (hSS:∀ b,S b→S' b) (hS' : ∀ b,S' b→b < w.heap.size∧A≠some ⟨b,0,none⟩) :
  Calls Tryz.prog 109 #[.slice A n c,.int .i64 (i:Nat),.slice (some ⟨vb,0,none⟩) 1 1] w (InsPost base S' A i v1 (n+1) (fs.take i++f :: fs.drop i) w):=by
 by_cases he:i=n
 ·subst he
  exact dinsert_end A i c base fs f v1 vb S S' w ho hbase hbig hV hnm hwf hd hSS hS'
 ·have hcap:=ho.cap
  rcases ho.2.2.2 with ⟨_,h1,_⟩ | ⟨g,cur,h1,h2,h3,h4,h5,h6⟩
  ·omega
  ·have hgw:=(ho.block g h1).2
   subst h1
   have hvb:vb≠g:=fun e=>hvA (by rw [e])
   by_cases hr:n+1≤c
   ·exact dinsert_shift g n c i (n - i) base cur fs f v1 vb S S' w ho.len (by omega) (by omega) hr (by have:=hcap.2;unfold maxLen at this;omega) h3 h4 h6 h2 hgw hvb hV hnm hwf hd hSS (fun b hb=>⟨(hS' b hb).1,fun e=>(hS' b hb).2 (by rw [e])⟩)
   ·exact dinsert_grow g n c i (n - i) base cur fs f v1 vb S S' w ho.len (by omega) (by omega) hcap.1 (by omega) hbig h3 h4 h6 hbase hgw hvw hV hnm hwf hd hSS (fun b hb=>(hS' b hb).1)
end Go.Proofs.YtalhdalinpdanaaGreatDoor.disk
end
section
namespace Go.Proofs.YtalhdalinpdanaaGreatDoor.disk
set_option maxRecDepth 20000
open Go.RowKit
theorem with_here {fs:List FileD} (h:Row fs) {f:FileD} (hl:look f.name fs=none):withF f fs=fs.take (placeN f.name fs)++f :: fs.drop (placeN f.name fs):=by
 have hsp:=place_spec (nm:=f.name) h
 have hle:=place_le f.name fs
 rw [with_eq f h]
 have e1:ahead f.name fs=fs.take (placeN f.name fs):=by
  have h1:(fs.take (placeN f.name fs)).filter (fun g=>decide (nlt g.name f.name))=fs.take (placeN f.name fs):=by
   rw [List.filter_eq_self]
   intro g hg
   obtain ⟨t,ht,rfl⟩:=List.getElem_of_mem hg
   rw [List.length_take] at ht
   rw [List.getElem_take]
   exact decide_eq_true ((hsp t _ (List.getElem?_eq_getElem (by omega))).1 (by omega))
  have h2:(fs.drop (placeN f.name fs)).filter (fun g=>decide (nlt g.name f.name))=[]:=by
   rw [List.filter_eq_nil_iff]
   intro g hg
   obtain ⟨t,ht,rfl⟩:=List.getElem_of_mem hg
   rw [List.length_drop] at ht
   rw [List.getElem_drop]
   simpa using (hsp (placeN f.name fs+t) _ (List.getElem?_eq_getElem (by omega))).2 (by omega)
  show fs.filter _=_
  conv=>lhs;rw [← List.take_append_drop (placeN f.name fs) fs]
  rw [List.filter_append,h1,h2,List.append_nil]
 have e2:behind f.name fs=fs.drop (placeN f.name fs):=by
  have h1:(fs.take (placeN f.name fs)).filter (fun g=>decide (nlt f.name g.name))=[]:=by
   rw [List.filter_eq_nil_iff]
   intro g hg
   obtain ⟨t,ht,rfl⟩:=List.getElem_of_mem hg
   rw [List.length_take] at ht
   rw [List.getElem_take]
   simpa using nlt_asymm ((hsp t _ (List.getElem?_eq_getElem (by omega))).1 (by omega))
  have h2:(fs.drop (placeN f.name fs)).filter (fun g=>decide (nlt f.name g.name))=fs.drop (placeN f.name fs):=by
   rw [List.filter_eq_self]
   intro g hg
   have hm:g ∈ fs:=List.mem_of_mem_drop hg
   obtain ⟨t,ht,rfl⟩:=List.getElem_of_mem hg
   rw [List.length_drop] at ht
   have h3:=(hsp (placeN f.name fs+t) _ (List.getElem?_eq_getElem (by omega))).2 (by omega)
   have h4:=look_none hl _ hm
   rw [List.getElem_drop] at h4 ⊢
   rcases nlt_tri fs[placeN f.name fs+t].name f.name with h5 | h5 | h5
   ·exact absurd h5 h3
   ·exact absurd h5 h4
   ·exact decide_eq_true h5
  show fs.filter _=_
  conv=>lhs;rw [← List.take_append_drop (placeN f.name fs) fs]
  rw [List.filter_append,h1,h2,List.nil_append]
 rw [e1,e2,List.append_assoc]
 rfl
end Go.Proofs.YtalhdalinpdanaaGreatDoor.disk
end
section
namespace Go.Proofs.YtalhdalinpdanaaGreatDoor.disk
set_option maxRecDepth 20000
open Go.RowKit
theorem allowed_fr (n:Nat) (room fuse:Int) (down:Bool) (nm:ByteArray) (fs:List FileD) (x:Int) (w:World) (hn:fs.length=n) (hr:inI room) (hfu:inI fuse) (hsh:shortB fs=true) (hnm:nm.size≤100) (hx:firstE ⟨fs,room,fuse,down⟩ nm nm=x) :
  ∀ (A1:Option Addr) (c1:Nat) (S1:Nat→Prop) (w1 W:World) (d0 d1 d2 d3 r0 r1 r2 r3:Value),DFr 27 w w1 W d0 d1 d2 d3 r0 r1 r2 r3→OwnF w1 (w.heap.size+2) 79 S1 A1 n c1 fs→(∀ b,S1 b→w.heap.size+2≤b∧b < w1.heap.size) →
   Calls Tryz.prog 107 #[.agg #[.slice A1 n c1,.int .i64 room,.int .i64 fuse,.bool down],.string nm] W fun e w'=>e = .returned (.int .i64 x)∧Below W.heap.size W w' :=
 fun A1 c1 S1 w1 W d0 d1 d2 d3 r0 r1 r2 r3 h ho hs=>dallowed A1 n c1 room fuse down nm fs x (Lt W.heap.size) W (fun _ h=>h) (fr_reads h ho hs) hn ho.cap.1 ho.cap.2 hr hfu (by have:=(used_short hsh).1;omega) (by unfold maxLen;omega) hx
end Go.Proofs.YtalhdalinpdanaaGreatDoor.disk
end
section
namespace Go.Proofs.YtalhdalinpdanaaGreatDoor.disk
set_option maxRecDepth 20000
open Go.RowKit
theorem step_append_runI {P:Program} {ops:Array Oper} {o:Oper} {a:Act} {w:World} {K:Act→World→Prop} {Q:Exit→Act→World→Prop} {E:Prop}
  (hg:o.guard=none) (s x:Operand) (t:TypeId) (hop:o.op=Op.call { callee:=Callee.builtin Builtin.append,args:=#[s,x],argTypes:=#[t,t] })
  (v u:Value) (hs:a.eval s=v) (hx:a.eval x=u) {v' : Value} {w' : World} (hr:(Builtin.append_ #[t,t] o.type #[v,u]).run P w = .ok v' w') (hK:K (a.put o.dst v') w') :
  if Region.wanted o (yielded ops a.tmps)=true then Oper.wp P o a w K Q else E:=by
 have hw:Region.wanted o (yielded ops a.tmps)=true:=by simp [Region.wanted,hg]
 rw [if_pos hw]
 unfold Oper.wp
 simp [execOp,hop,resolve,invoke,builtin,hs,hx,hr,Result.andThen]
 exact hK
theorem used_fr (n:Nat) (room fuse:Int) (down:Bool) (fs:List FileD) (u:Nat) (w:World) (hn:fs.length=n) (hsh:shortB fs=true) (hu:used fs=u) :
  ∀ (A1:Option Addr) (c1:Nat) (S1:Nat→Prop) (w1 W:World) (d0 d1 d2 d3 r0 r1 r2 r3:Value),DFr 27 w w1 W d0 d1 d2 d3 r0 r1 r2 r3→OwnF w1 (w.heap.size+2) 79 S1 A1 n c1 fs→(∀ b,S1 b→w.heap.size+2≤b∧b < w1.heap.size) →
   Calls Tryz.prog 81 #[.agg #[.slice A1 n c1,.int .i64 room,.int .i64 fuse,.bool down]] W fun e w'=>e = .returned (.int .i64 (u:Nat))∧Below W.heap.size W w' :=
 fun A1 c1 S1 w1 W d0 d1 d2 d3 r0 r1 r2 r3 h ho hs=>dused0 A1 n c1 room fuse down fs u (Lt W.heap.size) W (fun _ h=>h) (fr_reads h ho hs) hn (by have:=ho.cap;omega) (by have:=(used_short hsh).1;omega) hu
theorem place_fr (n:Nat) (nm:ByteArray) (fs:List FileD) (p:Nat) (b:Bool) (w:World) (hn:fs.length=n) (hsh:shortB fs=true) (hrow:Row fs) (hp:placeN nm fs=p) (hb:(look nm fs).isSome=b) :
  ∀ (A1:Option Addr) (c1:Nat) (S1:Nat→Prop) (w1 W:World) (d0 d1 d2 d3 r0 r1 r2 r3:Value),DFr 27 w w1 W d0 d1 d2 d3 r0 r1 r2 r3→OwnF w1 (w.heap.size+2) 79 S1 A1 n c1 fs→(∀ b,S1 b→w.heap.size+2≤b∧b < w1.heap.size) →
   Calls Tryz.prog 108 #[.slice A1 n c1,.string nm] W fun e w'=>e = .returned (.tuple #[.int .i64 (p:Nat),.bool b])∧Below W.heap.size W w' :=
 fun A1 c1 S1 w1 W d0 d1 d2 d3 r0 r1 r2 r3 h ho hs=>dplace A1 n c1 nm fs p b (Lt W.heap.size) W (fun _ h=>h) (fr_reads h ho hs) hn (by have:=(used_short hsh).2;omega) hrow hp hb
theorem op_app (d:DiskD) (nm:ByteArray) (b:List Nat) :
  (firstE d nm nm≠0∧appendD d nm b=(d,firstE d nm nm)) ∨
  (firstE d nm nm=0∧rightB d=true ∧ -1≤d.fuse ∧
   ((appE d nm b=6∧appendD d nm b=(d,6)) ∨
    ∃ f2 dn2 x2,appE d nm b=0∧spentD d.fuse d.down=((f2,dn2),x2)∧appendD d nm b=(⟨appF d.files nm b,d.room,f2,dn2⟩,x2))):=by
 by_cases h:firstE d nm nm=0
 ·have hr:=(first_zero.1 h).1
  have hfz:=((right_iff d).1 hr).2.1
  refine .inr ⟨h,hr,hfz,?_⟩
  have h6:appE d nm b=6∨appE d nm b=0:=by unfold appE;split<;>simp
  rcases h6 with h6 | h6
  ·exact .inl ⟨h6,op_pre h h6 (by simp)⟩
  ·by_cases hz:d.fuse=0
   ·exact .inr ⟨0,true,9,h6,by unfold spentD;rw [if_pos hz],op_down h h6 hz⟩
   ·refine .inr ⟨if 0 < d.fuse then d.fuse - 1 else d.fuse,d.down,0,h6,?_,op_done h h6 hz rfl⟩
    unfold spentD
    rw [if_neg hz]
    by_cases h3:d.fuse = -1
    ·rw [if_pos h3,h3];rfl
    ·rw [if_neg h3,if_pos (by omega)]
 ·exact .inl ⟨h,op_first rfl h⟩
set_option maxHeartbeats 8000000 in
theorem dappend_first (A:Option Addr) (n c:Nat) (room fuse:Int) (down:Bool) (nm:ByteArray) (Ab:Option Addr) (nb cb:Nat) (bs:List Nat) (fs:List FileD) (r:DiskD × Int) (S:Nat→Prop) (w:World) (hS:∀ b,S b→b < w.heap.size) (hf:FilesIn w S A fs) (hn:fs.length=n) (hnc:n≤c) (hcm:c≤maxLen) (hr:inI room) (hfu:inI fuse) (hsh:shortB fs=true) (hnm:nm.size≤100) (hb:BysIn w S Ab bs) (hbn:bs.length=nb) (hbc:nb≤cb) (hbm:cb≤maxLen) (hbl:nb≤70000) (hv:appendD ⟨fs,room,fuse,down⟩ nm bs=r) (hq:firstE ⟨fs,room,fuse,down⟩ nm nm≠0) :
  Calls Tryz.prog 68 #[.agg #[.slice A n c,.int .i64 room,.int .i64 fuse,.bool down],.string nm,.slice Ab nb cb] w (RetOp S w r):=by
 have HCP:=Lib.hid (dcopy_fr A n c room fuse down fs S w hS hf hn hnc hcm hsh)
 have hus:=used_short hsh
 obtain ⟨y,hy⟩:∃ y,firstE ⟨fs,room,fuse,down⟩ nm nm=y:=⟨_,rfl⟩
 obtain ⟨u,hu⟩:∃ u,used fs=u:=⟨_,rfl⟩
 have HAL:=Lib.hid (allowed_fr n room fuse down nm fs y w hn hr hfu hsh hnm hy)
 have HUS:=Lib.hid (used_fr n room fuse down fs u w hn hsh hu)
 have HN:=Lib.hid hn
 have HU:=Lib.hid hu
 have hu70:u≤70000:=by rw [← hu];exact hus.1
 have hn70:n≤70:=by rw [← hn];exact hus.2
 have HR2:Hid (r=(⟨fs,room,fuse,down⟩,y)):=Lib.hid (by rw [← hv,← hy];exact op_first rfl hq)
 have hy1:(y != 0)=true:=by rw [← hy];simpa using hq
 clear hf hn hnc hcm hsh hv hS hb hbn hbc hbm hy hu hq hus
 go_enter Tryz.func68,Tryz.ntmps68
 go_wp2_with (first
  |((with_reducible refine HCP.out.mono ?_);rintro e w1 ⟨A1,c1,S1,rfl,HO1,HAP,HS1,F1⟩;obtain ⟨b0,b1,b2,b3,q0,q1,q2,q3,bf0,bf1,bf2,bf3,qf0,qf1,qf2,qf3⟩:=F1.out.cells;have F2:=Lib.hid (F1.out.setBox (.slice A1 n c1) (.int .i64 room) (.int .i64 fuse) (.bool down)))
  |((with_reducible refine (HAL.out _ _ _ _ _ _ _ _ _ _ _ _ _ F2.out HO1.out HS1.out).mono ?_);rintro e wa ⟨rfl,hga⟩;have Fa:=Lib.hid (F2.out.below hga);obtain ⟨ca0,ca1,ca2,ca3,caq0,caq1,caq2,caq3,caf0,caf1,caf2,caf3,cag0,cag1,cag2,cag3⟩:=Fa.out.cells))
 refine bodyPost_ret (v:=.tuple #[.agg #[.slice A1 n c1,.int .i64 room,.int .i64 fuse,.bool down],.int .i64 y]) (by simp [results,Tryz.results68,go_sem,caq0,caq1,caq2,caq3]) rfl ?_
 rw [HR2.out]
 have F9:=Fa.out.setRes (.slice A1 n c1) (.int .i64 room) (.int .i64 fuse) (.bool down)
 exact F9.ret (F9.own HO1.out (Nat.le_refl _) HS1.out) (by omega) (fun b hb=>by have:=HS1.out b hb;have:=F9.size;omega) _ _ _ _
set_option maxHeartbeats 8000000 in
theorem dappend_full2 (A:Option Addr) (n c:Nat) (room fuse:Int) (down:Bool) (nm:ByteArray) (Ab:Option Addr) (nb cb:Nat) (bs:List Nat) (fs:List FileD) (r:DiskD × Int) (S:Nat→Prop) (w:World) (hS:∀ b,S b→b < w.heap.size) (hf:FilesIn w S A fs) (hn:fs.length=n) (hnc:n≤c) (hcm:c≤maxLen) (hr:inI room) (hfu:inI fuse) (hsh:shortB fs=true) (hnm:nm.size≤100) (hb:BysIn w S Ab bs) (hbn:bs.length=nb) (hbc:nb≤cb) (hbm:cb≤maxLen) (hbl:nb≤70000) (hv:appendD ⟨fs,room,fuse,down⟩ nm bs=r) (hq:firstE ⟨fs,room,fuse,down⟩ nm nm=0) (hq2:appE ⟨fs,room,fuse,down⟩ nm bs=6) (hq3:(used fs:Int)+(bs.length:Int)≤room∧look nm fs=none∧fs.length=64) :
  Calls Tryz.prog 68 #[.agg #[.slice A n c,.int .i64 room,.int .i64 fuse,.bool down],.string nm,.slice Ab nb cb] w (RetOp S w r):=by
 have HCP:=Lib.hid (dcopy_fr A n c room fuse down fs S w hS hf hn hnc hcm hsh)
 have hus:=used_short hsh
 obtain ⟨y,hy⟩:∃ y,firstE ⟨fs,room,fuse,down⟩ nm nm=y:=⟨_,rfl⟩
 obtain ⟨u,hu⟩:∃ u,used fs=u:=⟨_,rfl⟩
 have HAL:=Lib.hid (allowed_fr n room fuse down nm fs y w hn hr hfu hsh hnm hy)
 have HUS:=Lib.hid (used_fr n room fuse down fs u w hn hsh hu)
 have HN:=Lib.hid hn
 have HU:=Lib.hid hu
 have hu70:u≤70000:=by rw [← hu];exact hus.1
 have hn70:n≤70:=by rw [← hn];exact hus.2
 obtain rfl:0=y:=by rw [← hy,hq]
 have HR2:Hid (r=(⟨fs,room,fuse,down⟩,6)):=Lib.hid (by rw [← hv];exact op_pre hq hq2 (by simp))
 have hrt:=(first_zero.1 hq).1
 have hrow:Row fs:=((right_iff _).1 hrt).2.2.2.2.1
 obtain ⟨p,hp⟩:∃ p,placeN nm fs=p:=⟨_,rfl⟩
 obtain ⟨th,hth⟩:∃ th,(look nm fs).isSome=th:=⟨_,rfl⟩
 have HPL:=Lib.hid (place_fr n nm fs p th w hn hsh hrow hp hth)
 have hz:(u:Int)+(nb:Int)≤room:=by rw [← hu,← hbn];exact hq3.1
 have hzd:decide (room < (u:Int)+(nb:Int))=false:=decide_eq_false (by omega)
 obtain rfl:false=th:=by rw [← hth,hq3.2.1];rfl
 have h64:((n:Int) == 64)=true:=by have:=hq3.2.2;rw [hn] at this;simp;omega
 have hwr:IntKind.i64.wrap ((u:Int)+(nb:Int))=(u:Int)+(nb:Int):=by rw [IntKind.wrap_i64];omega
 clear hf hn hnc hcm hsh hv hS hb hbn hbc hbm hy hu hq hq2 hq3 hus hrt hrow hp hth
 go_enter Tryz.func68,Tryz.ntmps68
 go_wp2_with (first
  |((with_reducible refine HCP.out.mono ?_);rintro e w1 ⟨A1,c1,S1,rfl,HO1,HAP,HS1,F1⟩;obtain ⟨b0,b1,b2,b3,q0,q1,q2,q3,bf0,bf1,bf2,bf3,qf0,qf1,qf2,qf3⟩:=F1.out.cells;have F2:=Lib.hid (F1.out.setBox (.slice A1 n c1) (.int .i64 room) (.int .i64 fuse) (.bool down)))
  |((with_reducible refine (HAL.out _ _ _ _ _ _ _ _ _ _ _ _ _ F2.out HO1.out HS1.out).mono ?_);rintro e wa ⟨rfl,hga⟩;have Fa:=Lib.hid (F2.out.below hga);obtain ⟨ca0,ca1,ca2,ca3,caq0,caq1,caq2,caq3,caf0,caf1,caf2,caf3,cag0,cag1,cag2,cag3⟩:=Fa.out.cells)
  |((with_reducible refine (HPL.out _ _ _ _ _ _ _ _ _ _ _ _ _ Fa.out HO1.out HS1.out).mono ?_);rintro e w2 ⟨rfl,hg2⟩;have F3:=Lib.hid (Fa.out.below hg2);obtain ⟨cb0,cb1,cb2,cb3,cbq0,cbq1,cbq2,cbq3,cbf0,cbf1,cbf2,cbf3,cbg0,cbg1,cbg2,cbg3⟩:=F3.out.cells))
 go_region_held3 (fun w'=>w'.cell? ⟨w.heap.size,0,none⟩=some (.slice A1 n c1)∧w'.cell? ⟨w.heap.size,1,none⟩=some (.int .i64 room)∧w'.cell? ⟨w.heap.size,2,none⟩=some (.int .i64 fuse)∧w'.cell? ⟨w.heap.size,3,none⟩=some (.bool down))
  (first | exact ⟨cb0,cb1,cb2,cb3⟩ | exact ⟨cc0,cc1,cc2,cc3⟩)
  (first
  |(go_at_call 81;refine Calls.mono (HUS.out _ _ _ _ _ _ _ _ _ _ _ _ _ F3.out.drew HO1.out HS1.out) ?_;rintro e w4 ⟨rfl,hg4⟩;have F4:=Lib.hid (F3.out.drew.below hg4);obtain ⟨cc0,cc1,cc2,cc3,ccq0,ccq1,ccq2,ccq3,ccf0,ccf1,ccf2,ccf3,ccg0,ccg1,ccg2,ccg3⟩:=F4.out.cells))
 all_goals
  go_wp2
  refine bodyPost_ret (v:=.tuple #[.agg #[.slice A1 n c1,.int .i64 room,.int .i64 fuse,.bool down],.int .i64 6]) (by simp [results,Tryz.results68,go_sem,ccq0,ccq1,ccq2,ccq3]) rfl ?_
  rw [HR2.out]
  have F9:=F4.out.setRes (.slice A1 n c1) (.int .i64 room) (.int .i64 fuse) (.bool down)
  exact F9.ret (F9.own HO1.out (Nat.le_refl _) HS1.out) (by omega) (fun b hb=>by have:=HS1.out b hb;have:=F9.size;omega) _ _ _ _
end Go.Proofs.YtalhdalinpdanaaGreatDoor.disk
end
section
namespace Go.Proofs.YtalhdalinpdanaaGreatDoor.disk
set_option maxRecDepth 20000
open Go.RowKit
theorem run_append_data (W:World) (A:Option Addr) (n c:Nat) (bs0:List Nat) (Ab:Option Addr) (nb cb:Nat) (bs:List Nat) (base B:Nat) (ho:OwnBys W base 5 A n c bs0) (hb:Bys W B Ab bs) (hbn:bs.length=nb) (hl:n+nb≤200000) (hbase:base≤W.heap.size) :
  ∃ A' c' W',(Builtin.append_ #[62,62] 62 #[.slice A n c,.slice Ab nb cb]).run Tryz.prog W = .ok (.slice A' (n+nb) c') W'∧OwnBys W' base 5 A' (n+nb) c' (bs0++bs)∧W.grownBy W' (Value.slice A n c).ownBlock ∧
   ((Value.slice A' (n+nb) c').ownBlock=(Value.slice A n c).ownBlock∨(Value.slice A' (n+nb) c').ownBlock=some W.heap.size):=by
 have hinfo:(Tryz.prog.info? 5).map (fun i=>(i.zero,i.size,i.bytes))=some (some (.int .u8 0),1,1):=by kernel_rfl
 obtain ⟨A',c',W',h1,h2,h3,h4⟩:=run_append_ints (P:=Tryz.prog) (w:=W) base 62 62 5 .u8 1 Tryz.underlying62 hinfo (A:=A) (n:=n) (c:=c) (xs:=toI bs0) ho (B:=B) (A2:=Ab) (m:=nb) (ys:=toI bs) hb (by rw [toI_len];exact hbn) (c2:=cb) (by unfold maxLen;omega) (by omega) hbase
 exact ⟨A',c',W',h1,by unfold OwnBys;rw [toI_append];exact h2,h3,h4⟩
theorem own_data {W W7:World} {base g p n c nd cd n7 c7:Nat} {T T8:TypeId} {S:Nat→Prop} {fs:List FileD} {cur:Array Value} {f:FileD} {Ad A7:Option Addr} {bs7:List Nat} (hlen:fs.length=n) (hnc:n≤c) (hcm:c≤9223372036854775807) (hbg:base≤g) (hgW:g < W.heap.size) (hE:W.heap[g]?=some (.cells cur T (0,0))) (hcs:cur.size=c * 3)
  (hfp:fs[p]?=some f) (hself:FileCells cur p f (.slice Ad nd cd)) (hoth:∀ (j:Nat) f',j≠p→fs[j]?=some f'→∃ v,FileCells cur j f' v∧rdData W S v f'.data) (hS:∀ b,S b→base≤b∧b < W.heap.size∧b≠g∧(Value.slice Ad nd cd).ownBlock≠some b)
  (hgr:W.grownBy W7 (Value.slice Ad nd cd).ownBlock) (hog:(Value.slice Ad nd cd).ownBlock≠some g) (ho7:OwnBys W7 base T8 A7 n7 c7 bs7) (hob:(Value.slice A7 n7 c7).ownBlock=(Value.slice Ad nd cd).ownBlock∨(Value.slice A7 n7 c7).ownBlock=some W.heap.size) :
  (W7.setCell ⟨g,p * 3+1,none⟩ (.slice A7 n7 c7)).heap[g]?=some (.cells (cur.setIfInBounds (p * 3+1) (.slice A7 n7 c7)) T (0,0)) ∧
  OwnF (W7.setCell ⟨g,p * 3+1,none⟩ (.slice A7 n7 c7)) base T (fun b=>base≤b∧b < W7.heap.size∧b≠g) (some ⟨g,0,none⟩) n c (fs.set p { f with data:=bs7 }):=by
 have hE7:=heap_setCell_same W7 g (p * 3+1) _ _ (.slice A7 n7 c7) ((hgr.block g hgW (fun e=>hog e.symm)).trans hE)
 have hpl:=(List.getElem?_eq_some_iff.1 hfp).1
 have hcap:=OwnInts.cap ho7
 refine ⟨hE7,by rw [List.length_set];exact hlen,hnc,by unfold maxLen;omega,.inr ⟨g,_,rfl,hbg,hE7,by simpa using hcs,fun h=>h.2.2 rfl,fun j f' hj=>?_⟩⟩
 rw [List.getElem?_set] at hj
 by_cases e:p=j
 ·subst e
  rw [if_pos rfl,if_pos hpl] at hj
  injection hj with hj
  subst hj
  obtain ⟨s0,s1,s2,s3,s4⟩:=hself
  refine ⟨.slice A7 n7 c7,⟨by rw [set_cell _ (by omega)];exact s0,set_cell_self _ (by omega),by rw [set_cell _ (by omega)];exact s2,s3,s4⟩,A7,n7,c7,rfl,?_,OwnBys.len ho7,hcap.1,hcap.2⟩
  have hng:∀ b,(Value.slice A7 n7 c7).ownBlock=some b→b≠g:=fun b hb e=>by
   subst e
   rcases hob with h | h
   ·exact hog (h.symm.trans hb)
   ·rw [hb] at h;injection h with h;omega
  exact IntsIn.keep (OwnInts.owned ho7) (fun b o hb=>World.cell?_of_block (Below.heap_setCell _ _ _ _ (hng b hb))) (fun b hb=>⟨(OwnBys.block ho7 b hb).1,(OwnBys.block ho7 b hb).2,hng b hb⟩)
 ·rw [if_neg e] at hj
  obtain ⟨v,⟨s0,s1,s2,s3⟩,hd⟩:=hoth j f' (fun e2=>e e2.symm) hj
  refine ⟨v,⟨by rw [set_cell _ (by omega)];exact s0,by rw [set_cell _ (by omega)];exact s1,by rw [set_cell _ (by omega)];exact s2,s3⟩,hd.keep (fun b o hb=>World.cell?_of_block ?_) (fun b hb=>?_)⟩
  ·have h:=hS b hb
   exact (Below.heap_setCell _ _ _ _ h.2.2.1).trans (hgr.block b h.2.1 (fun e=>h.2.2.2 e.symm))
  ·have h:=hS b hb
   exact ⟨h.1,Nat.lt_of_lt_of_le h.2.1 hgr.size,h.2.2.1⟩
theorem below_grown {B:Nat} {w0 W W7:World} {row:Option Nat} (hb:Below B w0 W) (hgr:W.grownBy W7 row) (hB:B≤W.heap.size) (hr:∀ b,row=some b→B≤b):Below B w0 W7:=hb.grown hgr hB hr
end Go.Proofs.YtalhdalinpdanaaGreatDoor.disk
end
