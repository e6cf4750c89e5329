/-
  VenIns
-/
import Derived.Test.YtcpahggkioagkaaMvf16
import Derived.Test.YtcpahggkioagkaaMvf18
import Derived.Deep.RegionLaw
import Derived.Lib.SliceRun
import Derived.Lib.AppendZerosOnto
import Derived.Lib.Overlaps
import Derived.Laws.Externs
import Derived.Laws.IdiomCopy
import Derived.Laws.NewBlocks
import Derived.Maps.AppendAt
import Derived.Shelf.Spec.SlicesInsert
set_option linter.unusedVariables false
set_option linter.unusedSimpArgs false
namespace Go.Proofs.Ytcpahggkioagkaa.venue
set_option maxRecDepth 20000
open Go.RowKit Go.Proofs.Ytcpahggkioagkaa
abbrev TO:TypeId:=53
def Ins (base:Nat) (A:Option Addr) (n' : Nat) (xs' : List Value) (w:World) (e:Ending) (w' : World):Prop :=
 ∃ A' c',e = .returned (.slice A' n' c')∧w'.ownsRow base TO 12 (.slice A' n' c') n' xs'∧Below base w w'∧(∀ b,b < w.heap.size→A≠some ⟨b,0,none⟩→w'.heap[b]?=w.heap[b]?)∧∀ g,A'=some ⟨g,0,none⟩→A=some ⟨g,0,none⟩∨w.heap.size≤g
theorem run_copy12 {P:Program} (w:World) (dT sT ty elem:TypeId) (b o dLen dCap:Nat) (a:Addr) (sLen sCap k:Nat) (cs:List Value)
  (hu:P.underlying dT=some (.slice elem)) (hs:(P.info? elem).map (·.size)=some 12) (hk:Nat.min sLen dLen=k) (hn:cs.length=k * 12)
  (hsrc:∀ j v,cs[j]?=some v→w.cell? (a.add j)=some v) (hc:∀ j,j < cs.length→(w.cell? ⟨b,o+j,none⟩).isSome=true) (hf:∀ j,j < cs.length→w.frozen? ⟨b,o+j,none⟩=false) (h1:∀ v ∈ cs,v.oneCell'=true) :
  (Builtin.copy_ #[dT,sT] ty #[.slice (some ⟨b,o,none⟩) dLen dCap,.slice (some a) sLen sCap]).run P w = .ok (goInt k) (w.setCells b o cs):=by
 have hl:=run_loadCells_list (P:=P) w a cs hsrc
 have hst:=run_storeCells_cells (P:=P) b o cs 0 w (by simpa using hc) (by simpa using hf) h1
 cases hq:P.info? elem with
 |none=>simp [hq] at hs
 |some i =>
  have hi:i.size=12:=by simpa [hq] using hs
  rw [hn] at hl
  simp [Builtin.copy_,run_underlying hu,Builtin.lenOf,Builtin.firstCells,sizeOf,typeInfo,hq,hi,hk,hl,hst]
theorem hcells12 {w:World} {g c:Nat} {cur:Array Value} {T:TypeId} (h:w.heap[g]?=some (.cells cur T (0,0))) (hcs:cur.size=c * 12) {k:Nat} (hk:k < c * 12):(w.cell? ⟨g,k,none⟩).isSome=true∧w.frozen? ⟨g,k,none⟩=false:=by
 refine ⟨?_,frozen_of_row w g k _ _ h⟩
 rw [cell_of_row w g k _ _ _ h,Array.getElem?_eq_getElem (by omega)];rfl
abbrev zOr:Value:=.agg #[.int .i64 0,.int .i64 0,.int .i64 0,.int .i64 0,.int .i64 0,.int .i64 0,.int .i64 0,.int .i64 0,.int .i64 0,.int .i64 0,.int .i64 0,.bool false]
theorem info_or:(Try.prog.info? TO).map (fun i=>(i.zero,i.size,i.bytes))=some (some zOr,12,96):=by kernel_rfl
theorem zero_size12 (n:Nat):(Builtin.zeroCells zOr.cells n).size=n * 12:=by
 unfold Builtin.zeroCells
 rw [Array.size_map,Array.size_range]
 rfl
section
variable {A:Option Addr} {n c base i m g vb:Nat} {xs vs:List Value} {cur:Array Value} {w:World}
set_option maxHeartbeats 4000000 in
theorem oins_end (hown:w.ownsRow base TO 12 (.slice A n c) n xs) (hcap:n≤c∧c≤maxLen) (hnil:A=none→n=0∧c=0) (hbase:base≤w.heap.size) (hbig:n≤1000) (hV:w.heap[vb]?=some (.cells vs.toArray TO (0,0))) (hvl:vs.length=12) (h1v:∀ u ∈ vs,u.oneCell'=true) :
  Calls Try.prog 67 #[.slice A n c,.int .i64 (n:Nat),.slice (some ⟨vb,0,none⟩) 1 1] w (Ins base A (n+1) (xs++vs) w):=by
 obtain ⟨i0,hi0,hz0,hsz0,hby0⟩:=info_parts info_or
 obtain ⟨v',w',hrun,h2,h3,h4,h5⟩:=run_append_own_at (P:=Try.prog) (w:=w) base 23 23 TO i0 _ 12 96 Try.underlying23 hi0 hz0 hsz0 hby0 rfl (by omega) _ n xs hown ⟨vb,0,none⟩ 1 1 vs (by omega)
  (fun j u hj=>by
   rw [Addr.add_lit,Nat.zero_add,cell_of_row w vb j _ _ _ hV]
   simpa using hj)
  h1v (by unfold maxLen;omega) (by omega) hbase
 have HRUN:=Lib.hid hrun
 have hfin:∃ A' c',v' = .slice A' (n+1) c'∧w'.ownsRow base TO 12 (.slice A' (n+1) c') (n+1) (xs++vs)∧Below base w w'∧(∀ b,b < w.heap.size→A≠some ⟨b,0,none⟩→w'.heap[b]?=w.heap[b]?)∧∀ g,A'=some ⟨g,0,none⟩→A=some ⟨g,0,none⟩∨w.heap.size≤g:=by
  have hob:∀ b,A≠some ⟨b,0,none⟩→some b≠(Value.slice A n c).ownBlock:=fun b hb e=>by
   rcases hown.2 with ⟨hv,_⟩ | ⟨g,cap,cur,hv,_⟩
   ·rw [hv] at e;cases e
   ·injection hv with hv
    subst hv
    injection e with e
    exact hb (by rw [e])
  have hoff:∀ b,b < w.heap.size→A≠some ⟨b,0,none⟩→w'.heap[b]?=w.heap[b]?:=fun b h1 h2=>h3.block b h1 (hob b h2)
  have h2':=h2
  rcases h2.2 with ⟨_,h0⟩ | ⟨g',cap,cur',hv,hb',hE',hc1,hc2,hc3,htk⟩
  ·omega
  ·subst hv
   refine ⟨some ⟨g',0,none⟩,cap,rfl,h2',(Below.refl base w).grown h3 hbase (fun g hg=>(hown.lt g hg).1),hoff,fun g hg=>?_⟩
   obtain rfl:g'=g:=by injection hg with hg;injection hg
   rcases h5 with h5 | h5
   ·left
    rcases hown.2 with ⟨hv,_⟩ | ⟨g2,cap2,cur2,hv,_⟩
    ·rw [hv] at h5;cases h5
    ·injection hv with hv
     subst hv
     simp [Value.ownBlock] at h5
     rw [h5]
   ·right
    have h5' : g'=w.heap.size:=by simpa [Value.ownBlock] using h5
    omega
 obtain ⟨A',c',rfl,hfin⟩:=hfin
 have HFIN:=Lib.hid hfin
 have hcm:=hcap.2
 have hnc:=hcap.1
 unfold maxLen at hcm
 clear hi0 hz0 hsz0 hby0 hrun h2 h3 h4 h5 hfin hown hcap hV h1v hvl
 cases A with
 |none =>
  obtain ⟨rfl,rfl⟩:=hnil rfl
  go_enter Try.func67,Try.ntmps67
  go_wp2_with (at_builtin;refine Lib.wpList_append_run _ rfl _ _ _ _ rfl _ _ rfl rfl _ _ HRUN.out ?_)
  refine bodyPost_ret (v:=.slice A' (0+1) c') (by simp [results,Try.results67,go_sem]) rfl ?_
  exact ⟨A',c',rfl,HFIN.out⟩
 |some a =>
  obtain ⟨ab,ao,asp⟩:=a
  clear hnil
  go_enter Try.func67,Try.ntmps67
  go_wp2_with (at_builtin;refine Lib.wpList_append_run _ rfl _ _ _ _ rfl _ _ rfl rfl _ _ HRUN.out ?_)
  all_goals
   refine bodyPost_ret (v:=.slice A' (n+1) c') (by simp [results,Try.results67,go_sem]) rfl ?_
   exact ⟨A',c',rfl,HFIN.out⟩
theorem ins_row {w' : World} {g c n i:Nat} {cur cur' : Array Value} {vs:List Value} (hin:i≤n) (hnc:n+1≤c) (hcm:c≤maxLen) (hb:base≤g) (hvl:vs.length=12) (hxl:n * 12≤cur.size) (hE:w'.heap[g]?=some (.cells cur' TO (0,0))) (hs:cur'.size=c * 12)
  (h1:∀ k,k < i * 12→cur'[k]?=cur[k]?) (h2:∀ t,t < 12→cur'[i * 12+t]?=vs[t]?) (h3:∀ t,t < (n - i) * 12→cur'[(i+1) * 12+t]?=cur[i * 12+t]?) :
  w'.ownsRow base TO 12 (.slice (some ⟨g,0,none⟩) (n+1) c) (n+1) ((cur.toList.take (n * 12)).take (i * 12)++vs++(cur.toList.take (n * 12)).drop (i * 12)):=by
 have e:cur'.toList.take ((n+1) * 12)=(cur.toList.take (n * 12)).take (i * 12)++vs++(cur.toList.take (n * 12)).drop (i * 12):=by
  have l1:((cur.toList.take (n * 12)).take (i * 12)).length=i * 12:=by rw [List.length_take,List.length_take,Array.length_toList];omega
  apply List.ext_getElem?
  intro k
  by_cases hk:k < (n+1) * 12
  ·rw [List.getElem?_take,if_pos hk,Array.getElem?_toList,List.append_assoc]
   by_cases k1:k < i * 12
   ·rw [h1 k k1,List.getElem?_append_left (by omega),List.getElem?_take,if_pos k1,List.getElem?_take,if_pos (by omega),Array.getElem?_toList]
   ·rw [List.getElem?_append_right (by omega),l1]
    by_cases k2:k < i * 12+12
    ·rw [List.getElem?_append_left (by omega),← h2 (k - i * 12) (by omega),show i * 12+(k - i * 12)=k by omega]
    ·rw [List.getElem?_append_right (by omega),hvl,List.getElem?_drop,List.getElem?_take,if_pos (by omega),Array.getElem?_toList,← show (i+1) * 12+(k - (i+1) * 12)=k by omega,h3 _ (by omega)]
     congr 1;omega
  ·rw [List.getElem?_eq_none (by rw [List.length_take,Array.length_toList];omega),List.getElem?_eq_none (by rw [List.length_append,List.length_append,l1,hvl,List.length_drop,List.length_take,Array.length_toList];omega)]
 refine ⟨?_,.inr ⟨g,c,cur',rfl,hb,hE,hnc,hcm,hs,e⟩⟩
 rw [← e,List.length_take,Array.length_toList];omega
set_option maxHeartbeats 6000000 in
theorem oins_shift (him:n=i+m) (hm:0 < m) (hroom:n+1≤c) (hcm:c≤9223372036854775807) (hE:w.heap[g]?=some (.cells cur TO (0,0))) (hcs:cur.size=c * 12) (h1x:∀ u ∈ cur.toList.take (n * 12),u.oneCell'=true)
  (hbase:base≤g) (hgw:g < w.heap.size) (hvb:vb≠g) (hV:w.heap[vb]?=some (.cells vs.toArray TO (0,0))) (hvl:vs.length=12) (h1v:∀ u ∈ vs,u.oneCell'=true) :
  Calls Try.prog 67 #[.slice (some ⟨g,0,none⟩) n c,.int .i64 (i:Nat),.slice (some ⟨vb,0,none⟩) 1 1] w (Ins base (some ⟨g,0,none⟩) (n+1) ((cur.toList.take (n * 12)).take (i * 12)++vs++(cur.toList.take (n * 12)).drop (i * 12)) w):=by
 have HIM:=Lib.hid him
 obtain ⟨cs,hcsd⟩:∃ cs,cs=(cur.toList.take (n * 12)).drop (i * 12):=⟨_,rfl⟩
 have hcl:cs.length=m * 12:=by rw [hcsd,List.length_drop,List.length_take,Array.length_toList];omega
 have hcg:∀ t,t < m * 12→cs[t]?=cur[i * 12+t]?:=fun t ht=>by
  rw [hcsd,List.getElem?_drop,List.getElem?_take,if_pos (by omega),Array.getElem?_toList]
 have h1c:∀ u ∈ cs,u.oneCell'=true:=fun u hu=>h1x u (by rw [hcsd] at hu;exact List.mem_of_mem_drop hu)
 have hsz3:(Try.prog.info? TO).map (·.size)=some 12:=by kernel_rfl
 have hz51:∀ w,(Go.sizeOf TO).run Try.prog w = .ok 12 w:=fun w=>by kernel_rfl
 have hov:∀ lb cb,(callFunc 75 #[.slice (some ⟨vb,0,none⟩) 1 1,.slice (some ⟨g,(i+1) * 12,none⟩) lb cb]).run Try.prog w = .ok (.value (.bool false)) w:=fun lb cb=>by
  rw [run_callFunc_extern Try.func75 (by kernel_rfl) (by kernel_rfl) (by kernel_rfl) (e:=Extern.SlicesOverlaps.overlaps #[23,23] #[4]) (by kernel_rfl),
   Lib.run_overlaps_apart w 23 4 TO Try.underlying23 12 hz51 ⟨vb,0,none⟩ ⟨g,(i+1) * 12,none⟩ 1 1 lb cb hvb TO TO 12 cur.size (by show w.shape? vb=_;unfold World.shape?;rw [hV];simp [hvl]) (by show w.shape? g=_;unfold World.shape?;rw [hE]) (by omega) (frozen_of_row w vb 0 _ _ hV) (frozen_of_row w vb 12 _ _ hV)]
  rfl
 have hcp1:∀ ty dc sc,(Builtin.copy_ #[23,23] ty #[.slice (some ⟨g,(i+1) * 12,none⟩) (n - i) dc,.slice (some ⟨g,i * 12,none⟩) (n+1 - i) sc]).run Try.prog w.drew = .ok (goInt m) (w.drew.setCells g ((i+1) * 12) cs):=fun ty dc sc =>
  run_copy12 w.drew _ _ ty TO g ((i+1) * 12) (n - i) dc ⟨g,i * 12,none⟩ (n+1 - i) sc m cs Try.underlying23 hsz3 (by simp only [Nat.min_def];split<;>omega) hcl
   (fun j v hj=>by
    have hjl:=(List.getElem?_eq_some_iff.1 hj).1
    rw [Addr.add_lit,cell_of_row w.drew g _ _ _ _ hE,← hj,hcg _ (by omega)])
   (fun j hj=>(hcells12 (w:=w.drew) hE hcs (by omega)).1) (fun j hj=>(hcells12 (w:=w.drew) hE hcs (k:=(i+1) * 12+j) (by omega)).2) h1c
 obtain ⟨W1,hW1⟩:∃ W1,W1=w.drew.setCells g ((i+1) * 12) cs:=⟨_,rfl⟩
 have hE1:W1.heap[g]?=some (.cells (laid cur ((i+1) * 12) cs) TO (0,0)):=by rw [hW1];exact heap_cells_self (w:=w.drew) _ _ hE
 have hV1:W1.heap[vb]?=some (.cells vs.toArray TO (0,0)):=by rw [hW1,heap_cells _ _ hvb];exact hV
 have hcs1:(laid cur ((i+1) * 12) cs).size=c * 12:=by rw [laid_size];exact hcs
 have hcp2:∀ ty dc,(Builtin.copy_ #[23,23] ty #[.slice (some ⟨g,i * 12,none⟩) (n+1 - i) dc,.slice (some ⟨vb,0,none⟩) 1 1]).run Try.prog W1 = .ok (goInt 1) (W1.setCells g (i * 12) vs):=fun ty dc =>
  run_copy12 W1 _ _ ty TO g (i * 12) (n+1 - i) dc ⟨vb,0,none⟩ 1 1 1 vs Try.underlying23 hsz3 (by simp only [Nat.min_def];split<;>omega) (by rw [hvl])
   (fun j v hj=>by
    rw [Addr.add_lit,Nat.zero_add,cell_of_row W1 vb _ _ _ _ hV1]
    simpa using hj)
   (fun j hj=>(hcells12 hE1 hcs1 (by omega)).1) (fun j hj=>(hcells12 hE1 hcs1 (k:=i * 12+j) (by omega)).2) h1v
 have HFIN:Hid ((W1.setCells g (i * 12) vs).ownsRow base TO 12 (.slice (some ⟨g,0,none⟩) (n+1) c) (n+1) ((cur.toList.take (n * 12)).take (i * 12)++vs++(cur.toList.take (n * 12)).drop (i * 12))∧Below base w (W1.setCells g (i * 12) vs)∧(∀ b,b < w.heap.size→(some ⟨g,0,none⟩:Option Addr)≠some ⟨b,0,none⟩→(W1.setCells g (i * 12) vs).heap[b]?=w.heap[b]?) ∧
   ∀ g',(some ⟨g,0,none⟩:Option Addr)=some ⟨g',0,none⟩→(some ⟨g,0,none⟩:Option Addr)=some ⟨g',0,none⟩∨w.heap.size≤g'):=Lib.hid (by
  have hoff:∀ b,b≠g→(W1.setCells g (i * 12) vs).heap[b]?=w.heap[b]?:=fun b hb=>by
   rw [heap_cells _ _ hb,hW1];exact heap_cells (w:=w.drew) _ _ hb
  refine ⟨ins_row (by omega) hroom (by unfold maxLen;omega) hbase hvl (by omega) (heap_cells_self _ _ hE1) (by rw [laid_size];exact hcs1) (fun k hk=>?_) (fun t ht=>?_) (fun t ht=>?_),?_,fun b _ hb=>hoff b (fun e=>hb (by rw [e])),fun g' h=>.inl h⟩
  ·rw [laid_off (by omega),laid_off (by omega)]
  ·rw [laid_in (by omega) (by omega)]
  ·rw [laid_off (by omega),laid_in (by omega) (by omega),hcg _ (by omega)]
  ·rw [hW1];exact below_cells (below_cells (Below.refl _ _).drew hbase _ _) hbase _ _)
 have HW1:=Lib.hid hW1
 rw [← hW1] at hcp1
 have hz2:¬ ((i:Int)=(n:Int)):=by omega
 have hw1:IntKind.i64.wrap ((i:Int)+1)=(i:Int)+1:=by rw [IntKind.wrap_i64];omega
 have hw2:IntKind.i64.wrap ((n:Int)+1)=(n:Int)+1:=by rw [IntKind.wrap_i64];omega
 have hb1:(0:Int)≤(i:Int)+1:=by omega
 have hin:i≤n:=by omega
 have htn:((i:Int)+1).toNat=i+1:=by omega
 have htn2:((n:Int)+1).toNat=n+1:=by omega
 have hb2:¬ (c=i+1):=by omega
 have hb3:(i:Int)≤(n:Int)+1:=by omega
 have hb4:¬ (c=i):=by omega
 have hb5:(i:Int)+1≤(n:Int)+1:=by omega
 have hb6:¬ ((c:Int) < (n:Int)+1):=by omega
 clear hE hE1 hV1 hcs1 hV him hcl hvl hcsd hcg h1c h1v h1x hW1 hcs hsz3 hz51
 go_enter Try.func67,Try.ntmps67
 go_wp2_with (simp only [hov])
 go_region_law (refine step_copy_runI rfl _ _ 23 23 rfl _ _ (by simp [Act.eval,Act.put]) (by simp [Act.eval,Act.put]) (hcp1 _ _ _) ?_)
 go_wp2_with (at_builtin;refine wpList_copy_runI _ rfl _ _ 23 23 rfl _ _ rfl rfl (hcp2 _ _) ?_)
 refine bodyPost_ret (v:=.slice (some ⟨g,0,none⟩) (n+1) c) (by simp [results,Try.results67,go_sem]) rfl ?_
 exact ⟨_,c,rfl,HFIN.out⟩
set_option maxHeartbeats 6000000 in
theorem oins_grow (him:n=i+m) (hm:0 < m) (hnc:n≤c) (hroom:c < n+1) (hbig:n≤1000) (hE:w.heap[g]?=some (.cells cur TO (0,0))) (hcs:cur.size=c * 12) (h1x:∀ u ∈ cur.toList.take (n * 12),u.oneCell'=true)
  (hbase:base≤w.heap.size) (hgw:g < w.heap.size) (hvw:vb < w.heap.size) (hV:w.heap[vb]?=some (.cells vs.toArray TO (0,0))) (hvl:vs.length=12) (h1v:∀ u ∈ vs,u.oneCell'=true) :
  Calls Try.prog 67 #[.slice (some ⟨g,0,none⟩) n c,.int .i64 (i:Nat),.slice (some ⟨vb,0,none⟩) 1 1] w (Ins base (some ⟨g,0,none⟩) (n+1) ((cur.toList.take (n * 12)).take (i * 12)++vs++(cur.toList.take (n * 12)).drop (i * 12)) w):=by
 have HIM:=Lib.hid him
 obtain ⟨cs,hcsd⟩:∃ cs,cs=(cur.toList.take (n * 12)).drop (i * 12):=⟨_,rfl⟩
 obtain ⟨os,hos⟩:∃ os,os=(cur.toList.take (n * 12)).take (i * 12):=⟨_,rfl⟩
 have hcl:cs.length=m * 12:=by rw [hcsd,List.length_drop,List.length_take,Array.length_toList];omega
 have hol:os.length=i * 12:=by rw [hos,List.length_take,List.length_take,Array.length_toList];omega
 have hcg:∀ t,t < m * 12→cs[t]?=cur[i * 12+t]?:=fun t ht=>by
  rw [hcsd,List.getElem?_drop,List.getElem?_take,if_pos (by omega),Array.getElem?_toList]
 have hog:∀ t,t < i * 12→os[t]?=cur[t]?:=fun t ht=>by
  rw [hos,List.getElem?_take,if_pos ht,List.getElem?_take,if_pos (by omega),Array.getElem?_toList]
 have h1c:∀ u ∈ cs,u.oneCell'=true:=fun u hu=>h1x u (by rw [hcsd] at hu;exact List.mem_of_mem_drop hu)
 have hsz3:(Try.prog.info? TO).map (·.size)=some 12:=by kernel_rfl
 obtain ⟨i0,hi0,hz0,hzs,hzb⟩:=info_parts info_or
 have hkk:(n:Int)+1 - (i:Int)=((n+1 - i:Nat):Int):=by omega
 have hik:i+(n+1 - i)=n+1:=by omega
 have hold:(Builtin.firstCells i0.size i (.slice (some ⟨g,0,none⟩) i c)).run Try.prog w.drew = .ok os.toArray w.drew:=by
  rw [hzs]
  exact run_firstCells_some w.drew 12 i ⟨g,0,none⟩ i c os hol (fun j v hj=>by
   have hjl:=(List.getElem?_eq_some_iff.1 hj).1
   rw [Addr.add_lit,cell_of_row w.drew g _ _ _ _ hE,← hj,hog _ (by omega),Nat.zero_add])
 obtain ⟨G,hG⟩:∃ G,G=grownCap w (n+1) c TO:=⟨_,rfl⟩
 obtain ⟨ROW,hROW⟩:∃ ROW:Array Value,ROW=os.toArray++Builtin.zeroCells zOr.cells (n+1 - i)++Builtin.zeroCells zOr.cells (G - (n+1)):=⟨_,rfl⟩
 have hrz:∀ ty,(Builtin.append_ #[23,3] ty #[.slice (some ⟨g,0,none⟩) i c,.int .i64 ((n:Int)+1 - (i:Int))]).run Try.prog w = .ok (.slice (some ⟨w.heap.size,0,none⟩) (n+1) G) (w.drew.alloc (.cells ROW TO)):=fun ty=>by
  have h:=Lib.run_append_grow_zeros w 23 3 ty TO i0 zOr .i64 .i64 Try.underlying23 Try.underlying3 hi0 hz0 (some ⟨g,0,none⟩) i c os hold (n+1 - i) (by omega) (by omega) (by omega) (by omega) (by rw [hzb];omega) (by rw [hzb,hik];exact growslice_fits hroom (by omega))
  rw [hik] at h
  rw [hkk,hROW,hG]
  exact h
 have hGn:n+1≤G:=by rw [hG];exact grownCap_ge w _ _ _
 have hGm:G≤maxLen:=by rw [hG];exact grownCap_le_maxLen w (n+1) c _ (by unfold maxLen;omega)
 have hRl:ROW.size=G * 12:=by
  rw [hROW,Array.size_append,Array.size_append,zero_size12,zero_size12,List.size_toArray,hol]
  omega
 obtain ⟨W1,hW1⟩:∃ W1,W1=w.drew.alloc (.cells ROW TO):=⟨_,rfl⟩
 have hE1:W1.heap[w.heap.size]?=some (.cells ROW TO (0,0)):=by rw [hW1];exact heap_alloc_new w.drew _
 have hold1:∀ b,b < w.heap.size→W1.heap[b]?=w.heap[b]?:=fun b hb=>by rw [hW1];exact Below.heap_alloc w.drew _ _ hb
 have hcpA:∀ ty dc,(Builtin.copy_ #[23,23] ty #[.slice (some ⟨w.heap.size,i * 12,none⟩) (n+1 - i) dc,.slice (some ⟨vb,0,none⟩) 1 1]).run Try.prog W1 = .ok (goInt 1) (W1.setCells w.heap.size (i * 12) vs):=fun ty dc =>
  run_copy12 W1 _ _ ty TO w.heap.size (i * 12) (n+1 - i) dc ⟨vb,0,none⟩ 1 1 1 vs Try.underlying23 hsz3 (by simp only [Nat.min_def];split<;>omega) (by rw [hvl])
   (fun j v hj=>by
    rw [Addr.add_lit,Nat.zero_add,cell_of_row W1 vb _ _ _ _ ((hold1 vb hvw).trans hV)]
    simpa using hj)
   (fun j hj=>(hcells12 hE1 hRl (by omega)).1) (fun j hj=>(hcells12 hE1 hRl (k:=i * 12+j) (by omega)).2) h1v
 obtain ⟨W2,hW2⟩:∃ W2,W2=W1.setCells w.heap.size (i * 12) vs:=⟨_,rfl⟩
 have hE2:W2.heap[w.heap.size]?=some (.cells (laid ROW (i * 12) vs) TO (0,0)):=by rw [hW2];exact heap_cells_self _ _ hE1
 have hold2:∀ b,b < w.heap.size→W2.heap[b]?=w.heap[b]?:=fun b hb=>by rw [hW2,heap_cells _ _ (by omega)];exact hold1 b hb
 have hR2:(laid ROW (i * 12) vs).size=G * 12:=by rw [laid_size];exact hRl
 have hcpB:∀ ty dc sc,(Builtin.copy_ #[23,23] ty #[.slice (some ⟨w.heap.size,(i+1) * 12,none⟩) (n - i) dc,.slice (some ⟨g,i * 12,none⟩) (n - i) sc]).run Try.prog W2.drew = .ok (goInt m) (W2.drew.setCells w.heap.size ((i+1) * 12) cs):=fun ty dc sc =>
  run_copy12 W2.drew _ _ ty TO w.heap.size ((i+1) * 12) (n - i) dc ⟨g,i * 12,none⟩ (n - i) sc m cs Try.underlying23 hsz3 (by simp only [Nat.min_def];split<;>omega) hcl
   (fun j v hj=>by
    have hjl:=(List.getElem?_eq_some_iff.1 hj).1
    rw [Addr.add_lit,cell_of_row W2.drew g _ _ _ _ ((hold2 g hgw).trans hE),← hj,hcg _ (by omega)])
   (fun j hj=>(hcells12 (w:=W2.drew) hE2 hR2 (by omega)).1) (fun j hj=>(hcells12 (w:=W2.drew) hE2 hR2 (k:=(i+1) * 12+j) (by omega)).2) h1c
 have HFIN:Hid ((W2.drew.setCells w.heap.size ((i+1) * 12) cs).ownsRow base TO 12 (.slice (some ⟨w.heap.size,0,none⟩) (n+1) G) (n+1) ((cur.toList.take (n * 12)).take (i * 12)++vs++(cur.toList.take (n * 12)).drop (i * 12))∧Below base w (W2.drew.setCells w.heap.size ((i+1) * 12) cs)∧(∀ b,b < w.heap.size→(some ⟨g,0,none⟩:Option Addr)≠some ⟨b,0,none⟩→(W2.drew.setCells w.heap.size ((i+1) * 12) cs).heap[b]?=w.heap[b]?) ∧
   ∀ g',(some ⟨w.heap.size,0,none⟩:Option Addr)=some ⟨g',0,none⟩→(some ⟨g,0,none⟩:Option Addr)=some ⟨g',0,none⟩∨w.heap.size≤g'):=Lib.hid (by
  have hoff:∀ b,b < w.heap.size→(W2.drew.setCells w.heap.size ((i+1) * 12) cs).heap[b]?=w.heap[b]?:=fun b hb=>by
   rw [heap_cells (w:=W2.drew) _ _ (by omega)];exact hold2 b hb
  refine ⟨ins_row (by omega) hGn hGm hbase hvl (by omega) (heap_cells_self (w:=W2.drew) _ _ hE2) (by rw [laid_size];exact hR2) (fun k hk=>?_) (fun t ht=>?_) (fun t ht=>?_),?_,fun b hb _=>hoff b hb,fun g' h=>.inr ?_⟩
  ·rw [laid_off (by omega),laid_off (by omega),hROW,Array.append_assoc,Array.getElem?_append_left (by simp;omega),List.getElem?_toArray,hog _ hk]
  ·rw [laid_off (by omega),laid_in (by omega) (by omega)]
  ·rw [laid_in (by omega) (by omega),hcg _ (by omega)]
  ·rw [hW2,hW1];exact below_cells (below_cells ((Below.refl base w).drew.alloc hbase _) hbase _ _).drew hbase _ _
  ·injection h with h
   injection h with h
   omega)
 rw [← hW1] at hrz
 rw [← hW2] at hcpA
 have hz2:¬ ((i:Int)=(n:Int)):=by omega
 have hz3:(c:Int) < (n:Int)+1:=by omega
 have hw1:IntKind.i64.wrap ((i:Int)+1)=(i:Int)+1:=by rw [IntKind.wrap_i64];omega
 have hw2:IntKind.i64.wrap ((n:Int)+1)=(n:Int)+1:=by rw [IntKind.wrap_i64];omega
 have hw3:IntKind.i64.wrap ((n:Int)+1 - (i:Int))=(n:Int)+1 - (i:Int):=by rw [IntKind.wrap_i64];omega
 have hb1:(0:Int)≤(i:Int)+1:=by omega
 have hin:i≤n:=by omega
 have hic:i≤c:=by omega
 have htn:((i:Int)+1).toNat=i+1:=by omega
 have hGi:¬ (G=i):=by omega
 have hGim:¬ (G=i+1):=by omega
 have hci:¬ (c=i):=by omega
 have hb3:(i:Int)≤(n:Int)+1:=by omega
 have hb5:(i:Int)+1≤(n:Int)+1:=by omega
 have hcm63:c≤9223372036854775807:=by omega
 unfold maxLen at hGm
 clear hE hE1 hV him hcl hvl hcsd hcg hog h1c h1v h1x hW1 hW2 hcs hsz3 hos hol hold hi0 hz0 hzs hzb hkk hik hROW hRl hold1 hold2 hE2 hR2 hG
 go_enter Try.func67,Try.ntmps67
 go_wp2_with (first
  |(at_builtin;refine Lib.wpList_append_run _ rfl _ _ _ _ rfl _ _ rfl rfl _ _ (hrz _) ?_)
  |(at_builtin;refine wpList_copy_runI _ rfl _ _ 23 23 rfl _ _ rfl rfl (hcpA _ _) ?_))
 go_region_law (refine step_copy_runI rfl _ _ 23 23 rfl _ _ (by simp [Act.eval,Act.put]) (by simp [Act.eval,Act.put]) (hcpB _ _ _) ?_)
 go_wp2
 refine bodyPost_ret (v:=.slice (some ⟨w.heap.size,0,none⟩) (n+1) G) (by simp [results,Try.results67,go_sem]) rfl ?_
 exact ⟨_,G,rfl,HFIN.out⟩
theorem oins (hown:w.ownsRow base TO 12 (.slice A n c) n xs) (h1x:∀ u ∈ xs,u.oneCell'=true) (hbase:base≤w.heap.size) (hbig:n≤1000) (hi:i≤n) (hV:w.heap[vb]?=some (.cells vs.toArray TO (0,0))) (hvA:A≠some ⟨vb,0,none⟩) (hvl:vs.length=12) (h1v:∀ u ∈ vs,u.oneCell'=true) :
  Calls Try.prog 67 #[.slice A n c,.int .i64 (i:Nat),.slice (some ⟨vb,0,none⟩) 1 1] w (Ins base A (n+1) (xs.take (i * 12)++vs++xs.drop (i * 12)) w):=by
 have hxl:=hown.1
 have hvw:vb < w.heap.size:=by
  rcases Nat.lt_or_ge vb w.heap.size with h | h
  ·exact h
  ·rw [Array.getElem?_eq_none h] at hV;cases hV
 have h2:=hown.2
 rcases h2 with ⟨hv,h0⟩ | ⟨g,cap,cur,hv,hb,hE,hc1,hc2,hc3,htk⟩
 ·injection hv with e1 e2 e3
  subst e1 e2 e3
  obtain rfl:i=0:=by omega
  have:=oins_end (vb:=vb) (vs:=vs) hown ⟨Nat.le_refl _,Nat.zero_le _⟩ (fun _=>⟨rfl,rfl⟩) hbase hbig hV hvl h1v
  have hx0:xs=[]:=List.eq_nil_of_length_eq_zero (by omega)
  subst hx0
  simpa using this
 ·injection hv with e1 e2 e3
  subst e1 e3
  by_cases he:i=n
  ·subst he
   have:=oins_end (vb:=vb) (vs:=vs) hown ⟨hc1,hc2⟩ (fun h=>by cases h) hbase hbig hV hvl h1v
   rw [List.take_of_length_le (by omega),List.drop_of_length_le (by omega),List.append_nil]
   exact this
  ·have hgw:g < w.heap.size:=by
    rcases Nat.lt_or_ge g w.heap.size with h | h
    ·exact h
    ·rw [Array.getElem?_eq_none h] at hE;cases hE
   have hvb:vb≠g:=fun e=>hvA (by rw [e])
   rw [← htk] at h1x ⊢
   by_cases hr:n+1≤c
   ·exact oins_shift (m:=n - i) (by omega) (by omega) hr (by unfold maxLen at hc2;omega) hE hc3 h1x hb hgw hvb hV hvl h1v
   ·exact oins_grow (m:=n - i) (by omega) (by omega) hc1 (by omega) hbig hE hc3 h1x hbase hgw hvw hV hvl h1v
end
end Go.Proofs.Ytcpahggkioagkaa.venue
