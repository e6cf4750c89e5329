/-
  Row
-/
import Derived.Test.YtcpahggkioagkaaMvf09
set_option linter.unusedVariables false
set_option linter.unusedSimpArgs false
namespace Go.Proofs.Ytcpahggkioagkaa
set_option maxRecDepth 20000
open Go.RowKit
section
variable {w w' : World} {base n c:Nat} {e:TypeId} {k:IntKind} {A:Option Addr} {xs:List Int}
theorem OwnInts.cap (h:OwnInts w base e k A n c xs):n≤c∧c≤maxLen:=by
 rcases h.1.2 with ⟨hv,h0⟩ | ⟨g,cap,cur,hv,_,_,h2,h3,_⟩
 ·simp only [Value.slice.injEq] at hv
  obtain ⟨_,rfl,rfl⟩:=hv
  exact ⟨Nat.le_refl _,by unfold maxLen;omega⟩
 ·simp only [Value.slice.injEq,true_and] at hv
  obtain ⟨_,rfl⟩:=hv
  exact ⟨h2,h3⟩
theorem OwnInts.owned (h:OwnInts w base e k A n c xs):IntsIn k w (fun b=>(Value.slice A n c).ownBlock=some b) A xs :=
 ⟨h.2,fun hn=>by
  obtain ⟨b,off,e1,hlt,hc⟩:=h.ints.2 hn
  subst e1
  exact ⟨b,off,rfl,rfl,hc⟩⟩
theorem OwnInts.same (h:OwnInts w base e k A n c xs) (hb:∀ b,(Value.slice A n c).ownBlock=some b→w'.heap[b]?=w.heap[b]?):OwnInts w' base e k A n c xs:=by
 refine ⟨⟨h.1.1,?_⟩,h.2⟩
 rcases h.1.2 with h1 | ⟨g,cap,cur,hv,h1,h2,h3⟩
 ·exact .inl h1
 ·refine .inr ⟨g,cap,cur,hv,h1,?_,h3⟩
  rw [hb g (by rw [hv];rfl)];exact h2
end
def FileCells (cur:Array Value) (j:Nat) (f:FileD) (v:Value):Prop:=cur[j * 3]?=some (.string f.name)∧cur[j * 3+1]?=some v∧cur[j * 3+2]?=some (.int .i64 f.sure)∧f.name.size≤maxLen∧(Lit.int .i64 f.sure).wf=true
def rdData (w:World) (S:Nat→Prop) (v:Value) (bs:List Nat):Prop := ∃ A n c,v = .slice A n c∧BysIn w S A bs∧bs.length=n∧n≤c∧c≤maxLen
def RowAt (w:World) (S:Nat→Prop) (cur:Array Value) (fs:List FileD):Prop := ∀ (j:Nat) f,fs[j]?=some f→∃ v,FileCells cur j f v∧rdData w S v f.data
def OwnF (w:World) (base:Nat) (T:TypeId) (S:Nat→Prop) (A:Option Addr) (n c:Nat) (fs:List FileD):Prop :=
 fs.length=n∧n≤c∧c≤maxLen∧((A=none∧n=0∧c=0)∨∃ g cur,A=some ⟨g,0,none⟩∧base≤g∧w.heap[g]?=some (.cells cur T (0,0))∧cur.size=c * 3∧¬ S g∧RowAt w S cur fs)
theorem addr_eq {g g' : Nat} (h:(some (⟨g,0,none⟩:Addr))=some ⟨g',0,none⟩):g'=g:=by
 injection h with h
 injection h with h
 exact h.symm
section
variable {w w' : World} {base n c:Nat} {T:TypeId} {A:Option Addr} {fs:List FileD} {S S' : Nat→Prop} {cur:Array Value}
theorem rdData.keep {v:Value} {bs:List Nat} (h:rdData w S v bs) (hc:Alike S w w') (hS:∀ b,S b→S' b):rdData w' S' v bs:=by
 obtain ⟨A,n,c,h1,h2,h3⟩:=h
 exact ⟨A,n,c,h1,IntsIn.keep h2 hc hS,h3⟩
theorem RowAt.keep (h:RowAt w S cur fs) (hc:Alike S w w') (hS:∀ b,S b→S' b):RowAt w' S' cur fs:=fun j f hj=>by
 obtain ⟨v,h1,h2⟩:=h j f hj
 exact ⟨v,h1,h2.keep hc hS⟩
theorem OwnF.len (h:OwnF w base T S A n c fs):fs.length=n:=h.1
theorem OwnF.cap (h:OwnF w base T S A n c fs):n≤c∧c≤maxLen:=⟨h.2.1,h.2.2.1⟩
theorem OwnF.keep (h:OwnF w base T S A n c fs) (hg:∀ g,A=some ⟨g,0,none⟩→w'.heap[g]?=w.heap[g]?) (hS:Alike S w w'):OwnF w' base T S A n c fs:=by
 refine ⟨h.1,h.2.1,h.2.2.1,?_⟩
 rcases h.2.2.2 with h1 | ⟨g,cur,h1,h2,h3,h4,h5,h6⟩
 ·exact .inl h1
 ·exact .inr ⟨g,cur,h1,h2,(hg g h1).trans h3,h4,h5,h6.keep hS (fun _ h=>h)⟩
theorem OwnF.files (h:OwnF w base T S A n c fs) (hS:∀ b,S b→S' b) (hg:∀ g,A=some ⟨g,0,none⟩→S' g):FilesIn w S' A fs:=fun h0=>by
 rcases h.2.2.2 with ⟨_,h1,_⟩ | ⟨g,cur,h1,h2,h3,h4,h5,h6⟩
 ·have:=h.1;omega
 ·refine ⟨g,0,h1,hg g h1,fun j f hj=>?_⟩
  obtain ⟨v,⟨c0,c1,c2,c3,c4⟩,A',n',c',rfl,d1,d2,d3,d4⟩:=h6 j f hj
  refine ⟨[.string f.name,.slice A' n' c',.int .i64 f.sure],rfl,fun i u hi=>?_,A',n',c',rfl,c3,IntsIn.keep d1 (alike_refl _ _) hS,d2,d3,d4,c4⟩
  rw [Nat.zero_add,cell_of_row w g _ cur T (0,0) h3]
  match i,hi with
  | 0,hi=>simp at hi;subst hi;exact c0
  | 1,hi=>simp at hi;subst hi;exact c1
  | 2,hi=>simp at hi;subst hi;exact c2
end
theorem RowAt.at_ {w:World} {S:Nat→Prop} {cur:Array Value} {fs:List FileD} (h:RowAt w S cur fs) {j:Nat} {f:FileD} (hj:fs[j]?=some f) :
  ∃ A n c,cur[j * 3]?=some (.string f.name)∧cur[j * 3+1]?=some (.slice A n c)∧cur[j * 3+2]?=some (.int .i64 f.sure)∧f.name.size≤maxLen∧inI f.sure∧BysIn w S A f.data∧Hid (f.data.length=n)∧n≤c∧c≤maxLen:=by
 obtain ⟨v,⟨c0,c1,c2,c3,c4⟩,A,n,c,rfl,d1,d2,d3,d4⟩:=h j f hj
 exact ⟨A,n,c,c0,c1,c2,c3,inI_of_wf c4,d1,Lib.hid d2,d3,d4⟩
def CopyInv (base:Nat) (T8:TypeId) (S:Nat→Prop) (cc:Nat) (fs:List FileD) (k:Nat) (w:World) (cur:Array Value):Prop :=
 cur.size=cc * 3 ∧
 (∀ (j:Nat) f,fs[j]?=some f→∃ v,FileCells cur j f v∧(k≤j→rdData w S v f.data)∧(j < k→∃ A n c,v = .slice A n c∧OwnBys w base T8 A n c f.data)) ∧
 (∀ i j vi vj b,i < j→j < k→cur[i * 3+1]?=some vi→cur[j * 3+1]?=some vj→vi.ownBlock=some b→vj.ownBlock≠some b)
theorem set_cell {cur:Array Value} {p i:Nat} (u:Value) (h:p≠i):(cur.setIfInBounds p u)[i]?=cur[i]?:=by
 rw [Array.getElem?_setIfInBounds];simp [h]
theorem set_cell_self {cur:Array Value} {p:Nat} (u:Value) (h:p < cur.size):(cur.setIfInBounds p u)[p]?=some u:=by
 rw [Array.getElem?_setIfInBounds];simp [h]
def Apart (w:World) (base:Nat) (T8:TypeId) (S:Nat→Prop) (A:Option Addr) (fs:List FileD):Prop :=
 ∀ g cur T,A=some ⟨g,0,none⟩→w.heap[g]?=some (.cells cur T (0,0))→∀ (i:Nat) f,fs[i]?=some f→∃ Ai ni ci,cur[i * 3+1]?=some (.slice Ai ni ci)∧OwnBys w base T8 Ai ni ci f.data∧(Value.slice Ai ni ci).ownBlock≠some g ∧
  ∀ (j:Nat) f',j≠i→fs[j]?=some f'→∃ v,FileCells cur j f' v∧rdData w (fun b=>S b∧(Value.slice Ai ni ci).ownBlock≠some b) v f'.data
theorem Apart.keep {w w' : World} {base:Nat} {T8:TypeId} {S:Nat→Prop} {A:Option Addr} {fs:List FileD} (h:Apart w base T8 S A fs) (hg:∀ g,A=some ⟨g,0,none⟩→w'.heap[g]?=w.heap[g]?) (hb:∀ b,base≤b→b < w.heap.size→S b→w'.heap[b]?=w.heap[b]?)
  (hS:∀ b,S b→base≤b∧b < w.heap.size) (hO:∀ b,base≤b→b < w.heap.size→A≠some ⟨b,0,none⟩→w'.heap[b]?=w.heap[b]?):Apart w' base T8 S A fs:=fun g cur T hA hE i f hi=>by
 obtain ⟨Ai,ni,ci,h1,h2,h3,h4⟩:=h g cur T hA ((hg g hA).symm.trans hE) i f hi
 refine ⟨Ai,ni,ci,h1,OwnInts.same h2 fun b hb'=>hO b (OwnBys.block h2 b hb').1 (OwnBys.block h2 b hb').2 (fun e=>h3 (by rw [hb'];rw [hA] at e;injection e with e;injection e with e;rw [e])),h3,fun j f' hij hj=>?_⟩
 obtain ⟨v,k1,k2⟩:=h4 j f' hij hj
 exact ⟨v,k1,k2.keep (fun b o hSb=>World.cell?_of_block (hb b (hS b hSb.1).1 (hS b hSb.1).2 hSb.1)) (fun _ h=>h)⟩
theorem CopyInv.done {base:Nat} {T8 T:TypeId} {S:Nat→Prop} {cc:Nat} {fs:List FileD} {k:Nat} {w:World} {cur:Array Value} (h:CopyInv base T8 S cc fs fs.length w cur) {g:Nat} (hg:g < base)
  (hE:w.heap[g]?=some (.cells cur T (0,0))) (hn:fs.length=k) (hkc:k≤cc) (hcm:cc≤maxLen) {b0:Nat} (hb0:b0≤g) :
  OwnF w b0 T (fun b=>base≤b∧b < w.heap.size) (some ⟨g,0,none⟩) k cc fs∧Apart w base T8 (fun b=>base≤b∧b < w.heap.size) (some ⟨g,0,none⟩) fs:=by
 obtain ⟨i1,i2,i3⟩:=h
 have own:∀ (j:Nat) f,fs[j]?=some f→∃ A n c,FileCells cur j f (.slice A n c)∧OwnBys w base T8 A n c f.data:=fun j f hj=>by
  obtain ⟨v,c0,_,d2⟩:=i2 j f hj
  obtain ⟨A,n,c,rfl,hh⟩:=d2 (List.getElem?_eq_some_iff.1 hj).1
  exact ⟨A,n,c,c0,hh⟩
 refine ⟨⟨hn,hkc,hcm,.inr ⟨g,cur,rfl,hb0,hE,i1,fun h=>by omega,fun j f hj=>?_⟩⟩,?_⟩
 ·obtain ⟨A,n,c,c0,hh⟩:=own j f hj
  exact ⟨_,c0,A,n,c,rfl,IntsIn.keep (OwnInts.owned hh) (alike_refl _ _) (fun b hb=>OwnBys.block hh b hb),OwnBys.len hh,(OwnInts.cap hh).1,(OwnInts.cap hh).2⟩
 ·intro g' cur' T' hA hE' i f hi
  injection hA with hA
  obtain rfl:g=g':=by injection hA
  rw [hE] at hE'
  injection hE' with hE'
  obtain ⟨rfl,rfl⟩:cur=cur'∧T=T':=by injection hE' with e1 e2;exact ⟨e1,e2⟩
  obtain ⟨A,n,c,c0,hh⟩:=own i f hi
  refine ⟨A,n,c,c0.2.1,hh,fun e=>by have:=OwnBys.block hh g e;omega,fun j f' hij hj=>?_⟩
  obtain ⟨A',n',c',c0',hh'⟩:=own j f' hj
  refine ⟨_,c0',A',n',c',rfl,IntsIn.keep (OwnInts.owned hh') (alike_refl _ _) (fun b hb=>⟨OwnBys.block hh' b hb,fun e=>?_⟩),OwnBys.len hh',(OwnInts.cap hh').1,(OwnInts.cap hh').2⟩
  have hil:=(List.getElem?_eq_some_iff.1 hi).1
  have hjl:=(List.getElem?_eq_some_iff.1 hj).1
  rcases Nat.lt_or_gt_of_ne hij with h1 | h1
  ·exact i3 j i _ _ b h1 hil c0'.2.1 c0.2.1 hb e
  ·exact i3 i j _ _ b h1 hjl c0.2.1 c0'.2.1 e hb
end Go.Proofs.Ytcpahggkioagkaa
