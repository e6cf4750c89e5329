/-
  DiskImpl12
-/
import Derived.Test.YtlipgnenbdchmaaMsg31
set_option linter.unusedVariables false
set_option linter.unusedSimpArgs false
namespace Go.Proofs.Ytlipgnenbdchmaa.disk
set_option maxRecDepth 20000
open Go.RowKit
abbrev zAgg:Value:=.agg #[.string ⟨#[]⟩,.slice none 0 0,.int .i64 0]
theorem zero_size (n:Nat):(Builtin.zeroCells zAgg.cells n).size=n * 3:=by
 unfold Builtin.zeroCells
 rw [Array.size_map,Array.size_range]
 rfl
set_option maxHeartbeats 6000000 in
theorem dinsert_grow (g n c i m base:Nat) (cur:Array Value) (fs:List FileD) (f:FileD) (v1:Value) (vb:Nat) (S S' : Nat→Prop) (w:World) (hn:fs.length=n) (him:n=i+m) (hm:0 < m) (hnc:n≤c) (hroom:c < n+1) (hbig:n≤1000) (hE:w.heap[g]?=some (.cells cur 51 (0,0))) (hcs:cur.size=c * 3) (hrow:RowAt w S cur fs)
  (hbase:base≤w.heap.size) (hgw:g < w.heap.size) (hvw:vb < w.heap.size) (hV:w.heap[vb]?=some (.cells #[.string f.name,v1,.int .i64 f.sure] 51 (0,0)))
  (hnm:f.name.size≤maxLen) (hwf:(Lit.int .i64 f.sure).wf=true) (hd:rdData w S' v1 f.data) (hSS:∀ b,S b→S' b) (hS' : ∀ b,S' b→b < w.heap.size) :
  Calls Try.prog 53 #[.slice (some ⟨g,0,none⟩) n c,.int .i64 (i:Nat),.slice (some ⟨vb,0,none⟩) 1 1] w (InsPost base S' (some ⟨g,0,none⟩) i v1 (n+1) (fs.take i++f :: fs.drop i) w):=by
 have HIM:=Lib.hid him
 have hv1:v1.oneCell'=true:=by obtain ⟨_,_,_,rfl,_⟩:=hd;rfl
 obtain ⟨cs,hcsd⟩:∃ cs,cs=cellsFrom cur i m:=⟨_,rfl⟩
 obtain ⟨vs,hvs⟩:∃ vs:List Value,vs=[.string f.name,v1,.int .i64 f.sure]:=⟨_,rfl⟩
 obtain ⟨os,hos⟩:∃ os,os=cellsFrom cur 0 i:=⟨_,rfl⟩
 have hcl:cs.length=m * 3:=by rw [hcsd];exact from_len (by omega)
 have hol:os.length=i * 3:=by rw [hos];exact from_len (by omega)
 have hvl:vs.length=3:=by rw [hvs];rfl
 have h1c:∀ u ∈ cs,u.oneCell'=true:=by rw [hcsd];exact from_one hrow (by omega)
 have h1v:∀ u ∈ vs,u.oneCell'=true:=by rw [hvs];intro u hu;simp at hu;rcases hu with rfl | rfl | rfl<;>first | rfl | exact hv1
 have hsz3:(Try.prog.info? 51).map (·.size)=some 3:=by kernel_rfl
 have hinfo:Hid ((Try.prog.info? 51).map (fun i=>(i.zero,i.size,i.bytes))=some (some zAgg,3,48)):=Lib.hid (by kernel_rfl)
 obtain ⟨i0,hi0,hz0,hzs,hzb⟩:=info_parts hinfo.out
 have hkk:(n:Int)+1 - (i:Int)=((n+1 - i:Nat):Int):=by omega
 have hik:i+(n+1 - i)=n+1:=by omega
 have hold:(Builtin.firstCells i0.size i (.slice (some ⟨g,0,none⟩) i c)).run Try.prog w.drew = .ok os.toArray w.drew:=by
  rw [hzs]
  exact run_firstCells_some w.drew 3 i ⟨g,0,none⟩ i c os hol (fun j v hj=>by
   have hjl:=(List.getElem?_eq_some_iff.1 hj).1
   rw [Addr.add_lit,cell_of_row w.drew g _ _ _ _ hE,← hj,hos,from_get (by omega)])
 obtain ⟨G,hG⟩:∃ G,G=grownCap w (n+1) c 51:=⟨_,rfl⟩
 obtain ⟨ROW,hROW⟩:∃ ROW:Array Value,ROW=os.toArray++Builtin.zeroCells zAgg.cells (n+1 - i)++Builtin.zeroCells zAgg.cells (G - (n+1)):=⟨_,rfl⟩
 have hrz:∀ ty,(Builtin.append_ #[22,3] ty #[.slice (some ⟨g,0,none⟩) i c,.int .i64 ((n:Int)+1 - (i:Int))]).run Try.prog w = .ok (.slice (some ⟨w.heap.size,0,none⟩) (n+1) G) (w.drew.alloc (.cells ROW 51)):=fun ty=>by
  have h:=Lib.run_append_grow_zeros w 22 3 ty 51 i0 zAgg .i64 .i64 Try.underlying22 Try.underlying3 hi0 hz0 (some ⟨g,0,none⟩) i c os hold (n+1 - i) (by omega) (by omega) (by omega) (by omega) (by rw [hzb];omega) (by rw [hzb,hik];exact growslice_fits hroom (by omega))
  rw [hik] at h
  rw [hkk,hROW,hG]
  exact h
 have hGn:n+1≤G:=by rw [hG];exact grownCap_ge w _ _ _
 have hGm:G≤maxLen:=by rw [hG];exact grownCap_le_maxLen w (n+1) c _ (by unfold maxLen;omega)
 have hRl:ROW.size=G * 3:=by
  rw [hROW,Array.size_append,Array.size_append,zero_size,zero_size,List.size_toArray,hol]
  omega
 obtain ⟨W1,hW1⟩:∃ W1,W1=w.drew.alloc (.cells ROW 51):=⟨_,rfl⟩
 have hE1:W1.heap[w.heap.size]?=some (.cells ROW 51 (0,0)):=by rw [hW1];exact heap_alloc_new w.drew _
 have hold1:∀ b,b < w.heap.size→W1.heap[b]?=w.heap[b]?:=fun b hb=>by rw [hW1];exact Below.heap_alloc w.drew _ _ hb
 have hcpA:∀ ty dc,(Builtin.copy_ #[22,22] ty #[.slice (some ⟨w.heap.size,i * 3,none⟩) (n+1 - i) dc,.slice (some ⟨vb,0,none⟩) 1 1]).run Try.prog W1 = .ok (goInt 1) (W1.setCells w.heap.size (i * 3) vs):=fun ty dc =>
  run_copy3 W1 _ _ ty 51 w.heap.size (i * 3) (n+1 - i) dc ⟨vb,0,none⟩ 1 1 1 vs Try.underlying22 hsz3 (by simp only [Nat.min_def];split<;>omega) (by rw [hvl])
   (fun j v hj=>by
    rw [Addr.add_lit,Nat.zero_add,cell_of_row W1 vb _ _ _ _ ((hold1 vb hvw).trans hV),← Array.getElem?_toList,← hj,hvs])
   (fun j hj=>(hcells3 hE1 hRl (by omega)).1) (fun j hj=>(hcells3 hE1 hRl (k:=i * 3+j) (by omega)).2) h1v
 obtain ⟨W2,hW2⟩:∃ W2,W2=W1.setCells w.heap.size (i * 3) vs:=⟨_,rfl⟩
 have hE2:W2.heap[w.heap.size]?=some (.cells (laid ROW (i * 3) vs) 51 (0,0)):=by rw [hW2];exact heap_cells_self _ _ hE1
 have hold2:∀ b,b < w.heap.size→W2.heap[b]?=w.heap[b]?:=fun b hb=>by rw [hW2,heap_cells _ _ (by omega)];exact hold1 b hb
 have hR2:(laid ROW (i * 3) vs).size=G * 3:=by rw [laid_size];exact hRl
 have hcpB:∀ ty dc sc,(Builtin.copy_ #[22,22] ty #[.slice (some ⟨w.heap.size,(i+1) * 3,none⟩) (n - i) dc,.slice (some ⟨g,i * 3,none⟩) (n - i) sc]).run Try.prog W2.drew = .ok (goInt m) (W2.drew.setCells w.heap.size ((i+1) * 3) cs):=fun ty dc sc =>
  run_copy3 W2.drew _ _ ty 51 w.heap.size ((i+1) * 3) (n - i) dc ⟨g,i * 3,none⟩ (n - i) sc m cs Try.underlying22 hsz3 (by simp only [Nat.min_def];split<;>omega) hcl
   (fun j v hj=>by
    have hjl:=(List.getElem?_eq_some_iff.1 hj).1
    rw [Addr.add_lit,cell_of_row W2.drew g _ _ _ _ ((hold2 g hgw).trans hE),← hj,hcsd,from_get (by omega)])
   (fun j hj=>(hcells3 (w:=W2.drew) hE2 hR2 (by omega)).1) (fun j hj=>(hcells3 (w:=W2.drew) hE2 hR2 (k:=(i+1) * 3+j) (by omega)).2) h1c
 have HFIN:Hid (OwnF (W2.drew.setCells w.heap.size ((i+1) * 3) cs) base 51 S' (some ⟨w.heap.size,0,none⟩) (n+1) G (fs.take i++f :: fs.drop i)∧Below base w (W2.drew.setCells w.heap.size ((i+1) * 3) cs)∧(∀ b,b < w.heap.size→(some ⟨g,0,none⟩:Option Addr)≠some ⟨b,0,none⟩→(W2.drew.setCells w.heap.size ((i+1) * 3) cs).heap[b]?=w.heap[b]?) ∧
   ∃ g' cur',(some ⟨w.heap.size,0,none⟩:Option Addr)=some ⟨g',0,none⟩∧(W2.drew.setCells w.heap.size ((i+1) * 3) cs).heap[g']?=some (.cells cur' 51 (0,0))∧cur'[i * 3+1]?=some v1):=Lib.hid (by
  have hoff:∀ b,b < w.heap.size→(W2.drew.setCells w.heap.size ((i+1) * 3) cs).heap[b]?=w.heap[b]?:=fun b hb=>by
   rw [heap_cells (w:=W2.drew) _ _ (by omega)];exact hold2 b hb
  refine ⟨⟨by rw [List.length_append,List.length_take,List.length_cons,List.length_drop];omega,hGn,hGm,.inr ⟨w.heap.size,_,rfl,hbase,heap_cells_self (w:=W2.drew) _ _ hE2,by rw [laid_size,laid_size];exact hRl,fun h=>by have:=hS' _ h;omega,?_⟩⟩,?_,fun b hb _=>hoff b hb,w.heap.size,_,rfl,heap_cells_self (w:=W2.drew) _ _ hE2,by rw [laid_off (by omega),laid_in (by omega) (by omega),hvs];rfl⟩
  ·refine hrow.more (m:=m) (v0:=v1) (fun b o hSb=>World.cell?_of_block (hoff b (hS' b (hSS b hSb)))) hSS (by omega) (fun k hk=>?_) (fun t ht=>?_) ⟨?_,?_,?_,hnm,hwf⟩ (hd.keep (fun b o hSb=>World.cell?_of_block (hoff b (hS' b hSb))) (fun _ h=>h))
   ·rw [laid_off (by omega),laid_off (by omega),hROW,Array.append_assoc,Array.getElem?_append_left (by simp;omega),List.getElem?_toArray,hos,from_get (by omega),Nat.zero_mul,Nat.zero_add]
   ·rw [laid_in (by omega) (by omega),hcsd,from_get (by omega)]
   ·rw [laid_off (by omega)];exact (laid_in (cur:=ROW) (o:=i * 3) (vs:=vs) (t:=0) (by omega) (by omega)).trans (by rw [hvs];rfl)
   ·rw [laid_off (by omega),laid_in (by omega) (by omega),hvs];rfl
   ·rw [laid_off (by omega),laid_in (by omega) (by omega),hvs];rfl
  ·rw [hW2,hW1];exact below_cells (below_cells ((Below.refl base w).drew.alloc hbase _) hbase _ _).drew hbase _ _)
 rw [← hW1] at hrz
 rw [← hW2] at hcpA
 have hz2:¬ ((i:Int)=(n:Int)):=by omega
 have hz3:(c:Int) < (n:Int)+1:=by omega
 have hw1:IntKind.i64.wrap ((i:Int)+1)=(i:Int)+1:=by rw [IntKind.wrap_i64];omega
 have hw2:IntKind.i64.wrap ((n:Int)+1)=(n:Int)+1:=by rw [IntKind.wrap_i64];omega
 have hw3:IntKind.i64.wrap ((n:Int)+1 - (i:Int))=(n:Int)+1 - (i:Int):=by rw [IntKind.wrap_i64];omega
 have hb1:(0:Int)≤(i:Int)+1:=by omega
 have hin:i≤n:=by omega
 have hic:i≤c:=by omega
 have htn:((i:Int)+1).toNat=i+1:=by omega
 have hGi:¬ (G=i):=by omega
 have hGim:¬ (G=i+1):=by omega
 have hci:¬ (c=i):=by omega
 have hb3:(i:Int)≤(n:Int)+1:=by omega
 have hb5:(i:Int)+1≤(n:Int)+1:=by omega
 have hcm63:c≤9223372036854775807:=by omega
 unfold maxLen at hGm
 clear hE hrow hn hE1 hV hnm hwf hd hSS hS' him hcl hvl hvs hcsd h1c h1v hW1 hW2 hcs hsz3 hv1 hos hol hold hi0 hz0 hzs hzb hkk hik hROW hRl hold1 hold2 hE2 hR2 hG
 go_enter Try.func53,Try.ntmps53
 go_wp2_with (first
  |(at_builtin;refine Lib.wpList_append_run _ rfl _ _ _ _ rfl _ _ rfl rfl _ _ (hrz _) ?_)
  |(at_builtin;refine wpList_copy_runI _ rfl _ _ 22 22 rfl _ _ rfl rfl (hcpA _ _) ?_))
 go_region_law (refine step_copy_runI rfl _ _ 22 22 rfl _ _ (by simp [Act.eval,Act.put]) (by simp [Act.eval,Act.put]) (hcpB _ _ _) ?_)
 go_wp2
 refine bodyPost_ret (v:=.slice (some ⟨w.heap.size,0,none⟩) (n+1) G) (by simp [results,Try.results53,go_sem]) rfl ?_
 exact ⟨_,G,rfl,HFIN.out⟩
theorem dinsert (A:Option Addr) (n c i base:Nat) (fs:List FileD) (f:FileD) (v1:Value) (vb:Nat) (S S' : Nat→Prop) (w:World) (ho:OwnF w base 51 S A n c fs) (hbase:base≤w.heap.size) (hbig:n≤1000) (hi:i≤n) (hV:w.heap[vb]?=some (.cells #[.string f.name,v1,.int .i64 f.sure] 51 (0,0)))
  (hvw:vb < w.heap.size) (hvA:A≠some ⟨vb,0,none⟩) (hnm:f.name.size≤maxLen) (hwf:(Lit.int .i64 f.sure).wf=true) (hd:rdData w S' v1 f.data) (hSS:∀ b,S b→S' b) (hS' : ∀ b,S' b→b < w.heap.size∧A≠some ⟨b,0,none⟩) :
  Calls Try.prog 53 #[.slice A n c,.int .i64 (i:Nat),.slice (some ⟨vb,0,none⟩) 1 1] w (InsPost base S' A i v1 (n+1) (fs.take i++f :: fs.drop i) w):=by
 by_cases he:i=n
 ·subst he
  exact dinsert_end A i c base fs f v1 vb S S' w ho hbase hbig hV hnm hwf hd hSS hS'
 ·have hcap:=ho.cap
  rcases ho.2.2.2 with ⟨_,h1,_⟩ | ⟨g,cur,h1,h2,h3,h4,h5,h6⟩
  ·omega
  ·have hgw:=(ho.block g h1).2
   subst h1
   have hvb:vb≠g:=fun e=>hvA (by rw [e])
   by_cases hr:n+1≤c
   ·exact dinsert_shift g n c i (n - i) base cur fs f v1 vb S S' w ho.len (by omega) (by omega) hr (by have:=hcap.2;unfold maxLen at this;omega) h3 h4 h6 h2 hgw hvb hV hnm hwf hd hSS (fun b hb=>⟨(hS' b hb).1,fun e=>(hS' b hb).2 (by rw [e])⟩)
   ·exact dinsert_grow g n c i (n - i) base cur fs f v1 vb S S' w ho.len (by omega) (by omega) hcap.1 (by omega) hbig h3 h4 h6 hbase hgw hvw hV hnm hwf hd hSS (fun b hb=>(hS' b hb).1)
end Go.Proofs.Ytlipgnenbdchmaa.disk
