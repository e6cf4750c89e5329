/-
  DiskImpl11
-/
import Derived.Test.YtlipgnenbdchmaaMsg30
import Derived.Lib.AppendZerosOnto
import Derived.Lib.Overlaps
import Derived.Laws.Externs
import Derived.Laws.IdiomCopy
import Derived.Laws.NewBlocks
import Derived.Maps.AppendAt
import Derived.Shelf.Spec.SlicesInsert
set_option linter.unusedVariables false
set_option linter.unusedSimpArgs false
namespace Go.Proofs.Ytlipgnenbdchmaa.disk
set_option maxRecDepth 20000
open Go.RowKit
def InsPost (base:Nat) (S:Nat→Prop) (A:Option Addr) (i:Nat) (v1:Value) (n' : Nat) (fs' : List FileD) (w:World) (e:Ending) (w' : World):Prop :=
 ∃ A' c',e = .returned (.slice A' n' c')∧OwnF w' base 51 S A' n' c' fs'∧Below base w w'∧(∀ b,b < w.heap.size→A≠some ⟨b,0,none⟩→w'.heap[b]?=w.heap[b]?) ∧
  ∃ g cur,A'=some ⟨g,0,none⟩∧w'.heap[g]?=some (.cells cur 51 (0,0))∧cur[i * 3+1]?=some v1
theorem own_row {w:World} {base n c:Nat} {T:TypeId} {S:Nat→Prop} {A:Option Addr} {fs:List FileD} (h:OwnF w base T S A n c fs):∃ xs:List Value,w.ownsRow base T 3 (.slice A n c) n xs∧RowAt w S xs.toArray fs:=by
 rcases h.2.2.2 with ⟨h1,h2,h3⟩ | ⟨g,cur,h1,h2,h3,h4,h5,h6⟩
 ·subst h1 h2 h3
  have hfs:fs=[]:=List.eq_nil_of_length_eq_zero h.1
  subst hfs
  exact ⟨[],World.ownsRow_nil _ _ _ _,fun j f hj=>by simp at hj⟩
 ·subst h1
  refine ⟨cur.toList.take (n * 3),⟨by rw [List.length_take,Array.length_toList,h4];have:=h.2.1;omega,.inr ⟨g,c,cur,rfl,h2,h3,h.2.1,h.2.2.1,h4,rfl⟩⟩,fun j f hj=>?_⟩
  obtain ⟨v,k1,k2⟩:=h6 j f hj
  have hl:=(List.getElem?_eq_some_iff.1 hj).1
  have:=h.1
  refine ⟨v,k1.move fun q hq=>?_,k2⟩
  rw [← Array.getElem?_toList]
  show (cur.toList.take (n * 3))[j * 3+q]?=_
  rw [List.getElem?_take,if_pos (by omega),Array.getElem?_toList]
theorem run_copy3 {P:Program} (w:World) (dT sT ty elem:TypeId) (b o dLen dCap:Nat) (a:Addr) (sLen sCap k:Nat) (cs:List Value)
  (hu:P.underlying dT=some (.slice elem)) (hs:(P.info? elem).map (·.size)=some 3) (hk:Nat.min sLen dLen=k) (hn:cs.length=k * 3)
  (hsrc:∀ j v,cs[j]?=some v→w.cell? (a.add j)=some v) (hc:∀ j,j < cs.length→(w.cell? ⟨b,o+j,none⟩).isSome=true) (hf:∀ j,j < cs.length→w.frozen? ⟨b,o+j,none⟩=false) (h1:∀ v ∈ cs,v.oneCell'=true) :
  (Builtin.copy_ #[dT,sT] ty #[.slice (some ⟨b,o,none⟩) dLen dCap,.slice (some a) sLen sCap]).run P w = .ok (goInt k) (w.setCells b o cs):=by
 have hl:=run_loadCells_list (P:=P) w a cs hsrc
 have hst:=run_storeCells_cells (P:=P) b o cs 0 w (by simpa using hc) (by simpa using hf) h1
 cases hq:P.info? elem with
 |none=>simp [hq] at hs
 |some i =>
  have hi:i.size=3:=by simpa [hq] using hs
  rw [hn] at hl
  simp [Builtin.copy_,run_underlying hu,Builtin.lenOf,Builtin.firstCells,sizeOf,typeInfo,hq,hi,hk,hl,hst]
set_option maxHeartbeats 4000000 in
theorem dinsert_end (A:Option Addr) (n c base:Nat) (fs:List FileD) (f:FileD) (v1:Value) (vb:Nat) (S S' : Nat→Prop) (w:World) (ho:OwnF w base 51 S A n c fs) (hbase:base≤w.heap.size) (hbig:n≤1000) (hV:w.heap[vb]?=some (.cells #[.string f.name,v1,.int .i64 f.sure] 51 (0,0)))
  (hnm:f.name.size≤maxLen) (hwf:(Lit.int .i64 f.sure).wf=true) (hd:rdData w S' v1 f.data) (hSS:∀ b,S b→S' b) (hS' : ∀ b,S' b→b < w.heap.size∧A≠some ⟨b,0,none⟩) :
  Calls Try.prog 53 #[.slice A n c,.int .i64 (n:Nat),.slice (some ⟨vb,0,none⟩) 1 1] w (InsPost base S' A n v1 (n+1) (fs.take n++f :: fs.drop n) w):=by
 obtain ⟨xs,hown,hrow⟩:=own_row ho
 have hcap:=ho.cap
 have hlen:=ho.len
 have hxl:xs.length=n * 3:=hown.1
 have hv1:v1.oneCell'=true:=by obtain ⟨_,_,_,rfl,_⟩:=hd;rfl
 have hinfo:Hid ((Try.prog.info? 51).map (fun i=>(i.zero,i.size,i.bytes))=some (some (.agg #[.string ⟨#[]⟩,.slice none 0 0,.int .i64 0]),3,48)):=Lib.hid (by kernel_rfl)
 obtain ⟨i0,hi0,hz0,hsz0,hby0⟩:=info_parts hinfo.out
 obtain ⟨v',w',hrun,h2,h3,h4,h5⟩:=run_append_own_at (P:=Try.prog) (w:=w) base 22 22 51 i0 _ 3 48 Try.underlying22 hi0 hz0 hsz0 hby0 rfl (by omega) _ n xs hown ⟨vb,0,none⟩ 1 1 [.string f.name,v1,.int .i64 f.sure] rfl
  (fun j u hj=>by
   rw [Addr.add_lit,Nat.zero_add,cell_of_row w vb j _ _ _ hV,← Array.getElem?_toList]
   exact hj)
  (by intro u hu;simp at hu;rcases hu with rfl | rfl | rfl<;>first | rfl | exact hv1)
  (by unfold maxLen;omega) (by omega) hbase
 have HRUN:=Lib.hid hrun
 have hfin:∃ A' c',v' = .slice A' (n+1) c'∧OwnF w' base 51 S' A' (n+1) c' (fs.take n++f :: fs.drop n)∧Below base w w'∧(∀ b,b < w.heap.size→A≠some ⟨b,0,none⟩→w'.heap[b]?=w.heap[b]?) ∧
   ∃ g cur,A'=some ⟨g,0,none⟩∧w'.heap[g]?=some (.cells cur 51 (0,0))∧cur[n * 3+1]?=some v1:=by
  have hob:∀ b,A≠some ⟨b,0,none⟩→some b≠(Value.slice A n c).ownBlock:=fun b hb e=>by
   rcases hown.2 with ⟨hv,_⟩ | ⟨g,cap,cur,hv,_⟩
   ·rw [hv] at e;cases e
   ·injection hv with hv
    subst hv
    injection e with e
    exact hb (by rw [e])
  have hoff:∀ b,b < w.heap.size→A≠some ⟨b,0,none⟩→w'.heap[b]?=w.heap[b]?:=fun b h1 h2=>h3.block b h1 (hob b h2)
  rcases h2.2 with ⟨_,h0⟩ | ⟨g',cap,cur',hv,hb',hE',hc1,hc2,hc3,htk⟩
  ·omega
  ·subst hv
   have hk:∀ k,k < (n+1) * 3→cur'[k]?=(xs++[Value.string f.name,v1,.int .i64 f.sure])[k]?:=fun k hk=>by
    rw [← htk,List.getElem?_take,if_pos hk,Array.getElem?_toList]
   refine ⟨some ⟨g',0,none⟩,cap,rfl,⟨by rw [List.length_append,List.length_take,List.length_cons,List.length_drop];omega,hc1,hc2,.inr ⟨g',cur',rfl,hb',hE',hc3,fun hS=>?_,?_⟩⟩,(Below.refl base w).grown h3 hbase (fun g hg=>(hown.lt g hg).1),hoff,g',cur',rfl,hE',?_⟩
   ·have h6:=hS' g' hS
    rcases h5 with h5 | h5
    ·exact hob g' h6.2 h5
    ·have h5' : g'=w.heap.size:=by simpa [Value.ownBlock] using h5
     omega
   ·refine hrow.more (m:=0) (v0:=v1) (fun b o hSb=>World.cell?_of_block (hoff b (hS' b (hSS b hSb)).1 (hS' b (hSS b hSb)).2)) hSS (by omega) (fun k hk'=>?_) (fun t ht=>absurd ht (by omega)) ⟨?_,?_,?_,hnm,hwf⟩ (hd.keep (fun b o hSb=>World.cell?_of_block (hoff b (hS' b hSb).1 (hS' b hSb).2)) (fun _ h=>h))
    ·rw [hk k (by omega),List.getElem?_append_left (by omega)]
     exact (Array.getElem?_toList (xs:=xs.toArray) (i:=k))
    ·rw [hk _ (by omega),List.getElem?_append_right (by omega),hxl,Nat.sub_self];rfl
    ·rw [hk _ (by omega),List.getElem?_append_right (by omega),hxl,show n * 3+1 - n * 3=1 by omega];rfl
    ·rw [hk _ (by omega),List.getElem?_append_right (by omega),hxl,show n * 3+2 - n * 3=2 by omega];rfl
   ·rw [hk _ (by omega),List.getElem?_append_right (by omega),hxl,show n * 3+1 - n * 3=1 by omega];rfl
 obtain ⟨A',c',rfl,hfin⟩:=hfin
 have HFIN:=Lib.hid hfin
 have hcm:=hcap.2
 have hnc:=hcap.1
 unfold maxLen at hcm
 have hnone:A=none→n=0∧c=0:=fun e=>by
  rcases ho.2.2.2 with ⟨_,h1,h2⟩ | ⟨g,cur,h1,_⟩
  ·exact ⟨h1,h2⟩
  ·rw [e] at h1;cases h1
 clear hinfo hi0 hz0 hsz0 hby0 hrun h2 h3 h4 h5 hfin hown hrow ho hcap hxl hd hV hSS hS' hlen
 cases A with
 |none =>
  obtain ⟨rfl,rfl⟩:=hnone rfl
  go_enter Try.func53,Try.ntmps53
  go_wp2_with (at_builtin;refine Lib.wpList_append_run _ rfl _ _ _ _ rfl _ _ rfl rfl _ _ HRUN.out ?_)
  refine bodyPost_ret (v:=.slice A' (0+1) c') (by simp [results,Try.results53,go_sem]) rfl ?_
  exact ⟨A',c',rfl,HFIN.out⟩
 |some a =>
  obtain ⟨ab,ao,asp⟩:=a
  clear hnone
  go_enter Try.func53,Try.ntmps53
  go_wp2_with (at_builtin;refine Lib.wpList_append_run _ rfl _ _ _ _ rfl _ _ rfl rfl _ _ HRUN.out ?_)
  all_goals
   refine bodyPost_ret (v:=.slice A' (n+1) c') (by simp [results,Try.results53,go_sem]) rfl ?_
   exact ⟨A',c',rfl,HFIN.out⟩
theorem hcells3 {w:World} {g c:Nat} {cur:Array Value} {T:TypeId} (h:w.heap[g]?=some (.cells cur T (0,0))) (hcs:cur.size=c * 3) {k:Nat} (hk:k < c * 3):(w.cell? ⟨g,k,none⟩).isSome=true∧w.frozen? ⟨g,k,none⟩=false:=by
 refine ⟨?_,frozen_of_row w g k _ _ h⟩
 rw [cell_of_row w g k _ _ _ h,Array.getElem?_eq_getElem (by omega)];rfl
set_option maxHeartbeats 6000000 in
theorem dinsert_shift (g n c i m base:Nat) (cur:Array Value) (fs:List FileD) (f:FileD) (v1:Value) (vb:Nat) (S S' : Nat→Prop) (w:World) (hn:fs.length=n) (him:n=i+m) (hm:0 < m) (hroom:n+1≤c) (hcm:c≤9223372036854775807) (hE:w.heap[g]?=some (.cells cur 51 (0,0))) (hcs:cur.size=c * 3) (hrow:RowAt w S cur fs)
  (hbase:base≤g) (hgw:g < w.heap.size) (hvb:vb≠g) (hV:w.heap[vb]?=some (.cells #[.string f.name,v1,.int .i64 f.sure] 51 (0,0)))
  (hnm:f.name.size≤maxLen) (hwf:(Lit.int .i64 f.sure).wf=true) (hd:rdData w S' v1 f.data) (hSS:∀ b,S b→S' b) (hS' : ∀ b,S' b→b < w.heap.size∧b≠g) :
  Calls Try.prog 53 #[.slice (some ⟨g,0,none⟩) n c,.int .i64 (i:Nat),.slice (some ⟨vb,0,none⟩) 1 1] w (InsPost base S' (some ⟨g,0,none⟩) i v1 (n+1) (fs.take i++f :: fs.drop i) w):=by
 have HIM:=Lib.hid him
 have hv1:v1.oneCell'=true:=by obtain ⟨_,_,_,rfl,_⟩:=hd;rfl
 obtain ⟨cs,hcsd⟩:∃ cs,cs=cellsFrom cur i m:=⟨_,rfl⟩
 obtain ⟨vs,hvs⟩:∃ vs:List Value,vs=[.string f.name,v1,.int .i64 f.sure]:=⟨_,rfl⟩
 have hcl:cs.length=m * 3:=by rw [hcsd];exact from_len (by omega)
 have hvl:vs.length=3:=by rw [hvs];rfl
 have h1c:∀ u ∈ cs,u.oneCell'=true:=by rw [hcsd];exact from_one hrow (by omega)
 have h1v:∀ u ∈ vs,u.oneCell'=true:=by rw [hvs];intro u hu;simp at hu;rcases hu with rfl | rfl | rfl<;>first | rfl | exact hv1
 have hsz3:(Try.prog.info? 51).map (·.size)=some 3:=by kernel_rfl
 have hz51:∀ w,(Go.sizeOf 51).run Try.prog w = .ok 3 w:=fun w=>by kernel_rfl
 have hov:∀ lb cb,(callFunc 65 #[.slice (some ⟨vb,0,none⟩) 1 1,.slice (some ⟨g,(i+1) * 3,none⟩) lb cb]).run Try.prog w = .ok (.value (.bool false)) w:=fun lb cb=>by
  rw [run_callFunc_extern Try.func65 (by kernel_rfl) (by kernel_rfl) (by kernel_rfl) (e:=Extern.SlicesOverlaps.overlaps #[22,22] #[4]) (by kernel_rfl),
   Lib.run_overlaps_apart w 22 4 51 Try.underlying22 3 hz51 ⟨vb,0,none⟩ ⟨g,(i+1) * 3,none⟩ 1 1 lb cb hvb 51 51 3 cur.size (by show w.shape? vb=_;unfold World.shape?;rw [hV];rfl) (by show w.shape? g=_;unfold World.shape?;rw [hE]) (by omega) (frozen_of_row w vb 0 _ _ hV) (frozen_of_row w vb 3 _ _ hV)]
  rfl
 have hcp1:∀ ty dc sc,(Builtin.copy_ #[22,22] ty #[.slice (some ⟨g,(i+1) * 3,none⟩) (n - i) dc,.slice (some ⟨g,i * 3,none⟩) (n+1 - i) sc]).run Try.prog w.drew = .ok (goInt m) (w.drew.setCells g ((i+1) * 3) cs):=fun ty dc sc =>
  run_copy3 w.drew _ _ ty 51 g ((i+1) * 3) (n - i) dc ⟨g,i * 3,none⟩ (n+1 - i) sc m cs Try.underlying22 hsz3 (by simp only [Nat.min_def];split<;>omega) hcl
   (fun j v hj=>by
    have hjl:=(List.getElem?_eq_some_iff.1 hj).1
    rw [Addr.add_lit,cell_of_row w.drew g _ _ _ _ hE,← hj,hcsd,from_get (by omega)])
   (fun j hj=>(hcells3 (w:=w.drew) hE hcs (by omega)).1) (fun j hj=>(hcells3 (w:=w.drew) hE hcs (k:=(i+1) * 3+j) (by omega)).2) h1c
 obtain ⟨W1,hW1⟩:∃ W1,W1=w.drew.setCells g ((i+1) * 3) cs:=⟨_,rfl⟩
 have hE1:W1.heap[g]?=some (.cells (laid cur ((i+1) * 3) cs) 51 (0,0)):=by rw [hW1];exact heap_cells_self (w:=w.drew) _ _ hE
 have hV1:W1.heap[vb]?=some (.cells #[.string f.name,v1,.int .i64 f.sure] 51 (0,0)):=by rw [hW1,heap_cells _ _ hvb];exact hV
 have hcs1:(laid cur ((i+1) * 3) cs).size=c * 3:=by rw [laid_size];exact hcs
 have hcp2:∀ ty dc,(Builtin.copy_ #[22,22] ty #[.slice (some ⟨g,i * 3,none⟩) (n+1 - i) dc,.slice (some ⟨vb,0,none⟩) 1 1]).run Try.prog W1 = .ok (goInt 1) (W1.setCells g (i * 3) vs):=fun ty dc =>
  run_copy3 W1 _ _ ty 51 g (i * 3) (n+1 - i) dc ⟨vb,0,none⟩ 1 1 1 vs Try.underlying22 hsz3 (by simp only [Nat.min_def];split<;>omega) (by rw [hvl])
   (fun j v hj=>by
    rw [Addr.add_lit,Nat.zero_add,cell_of_row W1 vb _ _ _ _ hV1,← Array.getElem?_toList,← hj,hvs])
   (fun j hj=>(hcells3 hE1 hcs1 (by omega)).1) (fun j hj=>(hcells3 hE1 hcs1 (k:=i * 3+j) (by omega)).2) h1v
 have HFIN:Hid (OwnF (W1.setCells g (i * 3) vs) base 51 S' (some ⟨g,0,none⟩) (n+1) c (fs.take i++f :: fs.drop i)∧Below base w (W1.setCells g (i * 3) vs)∧(∀ b,b < w.heap.size→(some ⟨g,0,none⟩:Option Addr)≠some ⟨b,0,none⟩→(W1.setCells g (i * 3) vs).heap[b]?=w.heap[b]?) ∧
   ∃ g' cur',(some ⟨g,0,none⟩:Option Addr)=some ⟨g',0,none⟩∧(W1.setCells g (i * 3) vs).heap[g']?=some (.cells cur' 51 (0,0))∧cur'[i * 3+1]?=some v1):=Lib.hid (by
  have hoff:∀ b,b≠g→(W1.setCells g (i * 3) vs).heap[b]?=w.heap[b]?:=fun b hb=>by
   rw [heap_cells _ _ hb,hW1];exact heap_cells (w:=w.drew) _ _ hb
  refine ⟨⟨by rw [List.length_append,List.length_take,List.length_cons,List.length_drop];omega,hroom,by unfold maxLen;omega,.inr ⟨g,_,rfl,hbase,heap_cells_self _ _ hE1,by rw [laid_size,laid_size];exact hcs,fun h=>(hS' g h).2 rfl,?_⟩⟩,?_,fun b _ hb=>hoff b (fun e=>hb (by rw [e])),g,_,rfl,heap_cells_self _ _ hE1,by rw [laid_in (by omega) (by omega),hvs];rfl⟩
  ·refine hrow.more (m:=m) (v0:=v1) (fun b o hSb=>World.cell?_of_block (hoff b (hS' b (hSS b hSb)).2)) hSS (by omega) (fun k hk=>?_) (fun t ht=>?_) ⟨?_,?_,?_,hnm,hwf⟩ (hd.keep (fun b o hSb=>World.cell?_of_block (hoff b (hS' b hSb).2)) (fun _ h=>h))
   ·rw [laid_off (by omega),laid_off (by omega)]
   ·rw [laid_off (by omega),laid_in (by omega) (by omega),hcsd,from_get (by omega)]
   ·exact (laid_in (cur:=laid cur ((i+1) * 3) cs) (o:=i * 3) (vs:=vs) (t:=0) (by omega) (by omega)).trans (by rw [hvs];rfl)
   ·rw [laid_in (by omega) (by omega),hvs];rfl
   ·rw [laid_in (by omega) (by omega),hvs];rfl
  ·rw [hW1];exact below_cells (below_cells (Below.refl _ _).drew hbase _ _) hbase _ _)
 have HW1:=Lib.hid hW1
 rw [← hW1] at hcp1
 have hz2:¬ ((i:Int)=(n:Int)):=by omega
 have hw1:IntKind.i64.wrap ((i:Int)+1)=(i:Int)+1:=by rw [IntKind.wrap_i64];omega
 have hw2:IntKind.i64.wrap ((n:Int)+1)=(n:Int)+1:=by rw [IntKind.wrap_i64];omega
 have hb1:(0:Int)≤(i:Int)+1:=by omega
 have hin:i≤n:=by omega
 have htn:((i:Int)+1).toNat=i+1:=by omega
 have htn2:((n:Int)+1).toNat=n+1:=by omega
 have hb2:¬ (c=i+1):=by omega
 have hb3:(i:Int)≤(n:Int)+1:=by omega
 have hb4:¬ (c=i):=by omega
 have hb5:(i:Int)+1≤(n:Int)+1:=by omega
 have hb6:¬ ((c:Int) < (n:Int)+1):=by omega
 clear hE hrow hn hE1 hV1 hcs1 hV hnm hwf hd hSS hS' him hcl hvl hvs hcsd h1c h1v hW1 hcs hsz3 hz51 hv1
 go_enter Try.func53,Try.ntmps53
 go_wp2_with (simp only [hov])
 go_region_law (refine step_copy_runI rfl _ _ 22 22 rfl _ _ (by simp [Act.eval,Act.put]) (by simp [Act.eval,Act.put]) (hcp1 _ _ _) ?_)
 go_wp2_with (at_builtin;refine wpList_copy_runI _ rfl _ _ 22 22 rfl _ _ rfl rfl (hcp2 _ _) ?_)
 refine bodyPost_ret (v:=.slice (some ⟨g,0,none⟩) (n+1) c) (by simp [results,Try.results53,go_sem]) rfl ?_
 exact ⟨_,c,rfl,HFIN.out⟩
end Go.Proofs.Ytlipgnenbdchmaa.disk
