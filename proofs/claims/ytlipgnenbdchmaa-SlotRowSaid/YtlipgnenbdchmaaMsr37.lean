/-
  DiskImpl15c
-/
import Derived.Test.YtlipgnenbdchmaaMsr36
set_option linter.unusedVariables false
set_option linter.unusedSimpArgs false
namespace Go.Proofs.Ytlipgnenbdchmaa.disk
set_option maxRecDepth 20000
open Go.RowKit
theorem run_append_data (W:World) (A:Option Addr) (n c:Nat) (bs0:List Nat) (Ab:Option Addr) (nb cb:Nat) (bs:List Nat) (base B:Nat) (ho:OwnBys W base 5 A n c bs0) (hb:Bys W B Ab bs) (hbn:bs.length=nb) (hl:n+nb≤200000) (hbase:base≤W.heap.size) :
  ∃ A' c' W',(Builtin.append_ #[27,27] 27 #[.slice A n c,.slice Ab nb cb]).run Try.prog W = .ok (.slice A' (n+nb) c') W'∧OwnBys W' base 5 A' (n+nb) c' (bs0++bs)∧W.grownBy W' (Value.slice A n c).ownBlock ∧
   ((Value.slice A' (n+nb) c').ownBlock=(Value.slice A n c).ownBlock∨(Value.slice A' (n+nb) c').ownBlock=some W.heap.size):=by
 have hinfo:(Try.prog.info? 5).map (fun i=>(i.zero,i.size,i.bytes))=some (some (.int .u8 0),1,1):=by kernel_rfl
 obtain ⟨A',c',W',h1,h2,h3,h4⟩:=run_append_ints (P:=Try.prog) (w:=W) base 27 27 5 .u8 1 Try.underlying27 hinfo (A:=A) (n:=n) (c:=c) (xs:=toI bs0) ho (B:=B) (A2:=Ab) (m:=nb) (ys:=toI bs) hb (by rw [toI_len];exact hbn) (c2:=cb) (by unfold maxLen;omega) (by omega) hbase
 exact ⟨A',c',W',h1,by unfold OwnBys;rw [toI_append];exact h2,h3,h4⟩
theorem own_data {W W7:World} {base g p n c nd cd n7 c7:Nat} {T T8:TypeId} {S:Nat→Prop} {fs:List FileD} {cur:Array Value} {f:FileD} {Ad A7:Option Addr} {bs7:List Nat} (hlen:fs.length=n) (hnc:n≤c) (hcm:c≤9223372036854775807) (hbg:base≤g) (hgW:g < W.heap.size) (hE:W.heap[g]?=some (.cells cur T (0,0))) (hcs:cur.size=c * 3)
  (hfp:fs[p]?=some f) (hself:FileCells cur p f (.slice Ad nd cd)) (hoth:∀ (j:Nat) f',j≠p→fs[j]?=some f'→∃ v,FileCells cur j f' v∧rdData W S v f'.data) (hS:∀ b,S b→base≤b∧b < W.heap.size∧b≠g∧(Value.slice Ad nd cd).ownBlock≠some b)
  (hgr:W.grownBy W7 (Value.slice Ad nd cd).ownBlock) (hog:(Value.slice Ad nd cd).ownBlock≠some g) (ho7:OwnBys W7 base T8 A7 n7 c7 bs7) (hob:(Value.slice A7 n7 c7).ownBlock=(Value.slice Ad nd cd).ownBlock∨(Value.slice A7 n7 c7).ownBlock=some W.heap.size) :
  (W7.setCell ⟨g,p * 3+1,none⟩ (.slice A7 n7 c7)).heap[g]?=some (.cells (cur.setIfInBounds (p * 3+1) (.slice A7 n7 c7)) T (0,0)) ∧
  OwnF (W7.setCell ⟨g,p * 3+1,none⟩ (.slice A7 n7 c7)) base T (fun b=>base≤b∧b < W7.heap.size∧b≠g) (some ⟨g,0,none⟩) n c (fs.set p { f with data:=bs7 }):=by
 have hE7:=heap_setCell_same W7 g (p * 3+1) _ _ (.slice A7 n7 c7) ((hgr.block g hgW (fun e=>hog e.symm)).trans hE)
 have hpl:=(List.getElem?_eq_some_iff.1 hfp).1
 have hcap:=OwnInts.cap ho7
 refine ⟨hE7,by rw [List.length_set];exact hlen,hnc,by unfold maxLen;omega,.inr ⟨g,_,rfl,hbg,hE7,by simpa using hcs,fun h=>h.2.2 rfl,fun j f' hj=>?_⟩⟩
 rw [List.getElem?_set] at hj
 by_cases e:p=j
 ·subst e
  rw [if_pos rfl,if_pos hpl] at hj
  injection hj with hj
  subst hj
  obtain ⟨s0,s1,s2,s3,s4⟩:=hself
  refine ⟨.slice A7 n7 c7,⟨by rw [set_cell _ (by omega)];exact s0,set_cell_self _ (by omega),by rw [set_cell _ (by omega)];exact s2,s3,s4⟩,A7,n7,c7,rfl,?_,OwnBys.len ho7,hcap.1,hcap.2⟩
  have hng:∀ b,(Value.slice A7 n7 c7).ownBlock=some b→b≠g:=fun b hb e=>by
   subst e
   rcases hob with h | h
   ·exact hog (h.symm.trans hb)
   ·rw [hb] at h;injection h with h;omega
  exact IntsIn.keep (OwnInts.owned ho7) (fun b o hb=>World.cell?_of_block (Below.heap_setCell _ _ _ _ (hng b hb))) (fun b hb=>⟨(OwnBys.block ho7 b hb).1,(OwnBys.block ho7 b hb).2,hng b hb⟩)
 ·rw [if_neg e] at hj
  obtain ⟨v,⟨s0,s1,s2,s3⟩,hd⟩:=hoth j f' (fun e2=>e e2.symm) hj
  refine ⟨v,⟨by rw [set_cell _ (by omega)];exact s0,by rw [set_cell _ (by omega)];exact s1,by rw [set_cell _ (by omega)];exact s2,s3⟩,hd.keep (fun b o hb=>World.cell?_of_block ?_) (fun b hb=>?_)⟩
  ·have h:=hS b hb
   exact (Below.heap_setCell _ _ _ _ h.2.2.1).trans (hgr.block b h.2.1 (fun e=>h.2.2.2 e.symm))
  ·have h:=hS b hb
   exact ⟨h.1,Nat.lt_of_lt_of_le h.2.1 hgr.size,h.2.2.1⟩
theorem below_grown {B:Nat} {w0 W W7:World} {row:Option Nat} (hb:Below B w0 W) (hgr:W.grownBy W7 row) (hB:B≤W.heap.size) (hr:∀ b,row=some b→B≤b):Below B w0 W7:=hb.grown hgr hB hr
end Go.Proofs.Ytlipgnenbdchmaa.disk
