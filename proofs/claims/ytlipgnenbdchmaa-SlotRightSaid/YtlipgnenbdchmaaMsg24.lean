/-
  Row, Cut, DiskMathA
-/
import Derived.Test.YtlipgnenbdchmaaMsg19
import Derived.Test.YtlipgnenbdchmaaMsg02
import Derived.Test.YtlipgnenbdchmaaMsg04
set_option linter.unusedVariables false
set_option linter.unusedSimpArgs false
section
namespace Go.Proofs.Ytlipgnenbdchmaa
set_option maxRecDepth 20000
open Go.RowKit
section
variable {w w' : World} {base n c:Nat} {e:TypeId} {k:IntKind} {A:Option Addr} {xs:List Int}
theorem OwnInts.cap (h:OwnInts w base e k A n c xs):n≤c∧c≤maxLen:=by
 rcases h.1.2 with ⟨hv,h0⟩ | ⟨g,cap,cur,hv,_,_,h2,h3,_⟩
 ·simp only [Value.slice.injEq] at hv
  obtain ⟨_,rfl,rfl⟩:=hv
  exact ⟨Nat.le_refl _,by unfold maxLen;omega⟩
 ·simp only [Value.slice.injEq,true_and] at hv
  obtain ⟨_,rfl⟩:=hv
  exact ⟨h2,h3⟩
theorem OwnInts.owned (h:OwnInts w base e k A n c xs):IntsIn k w (fun b=>(Value.slice A n c).ownBlock=some b) A xs :=
 ⟨h.2,fun hn=>by
  obtain ⟨b,off,e1,hlt,hc⟩:=h.ints.2 hn
  subst e1
  exact ⟨b,off,rfl,rfl,hc⟩⟩
theorem OwnInts.same (h:OwnInts w base e k A n c xs) (hb:∀ b,(Value.slice A n c).ownBlock=some b→w'.heap[b]?=w.heap[b]?):OwnInts w' base e k A n c xs:=by
 refine ⟨⟨h.1.1,?_⟩,h.2⟩
 rcases h.1.2 with h1 | ⟨g,cap,cur,hv,h1,h2,h3⟩
 ·exact .inl h1
 ·refine .inr ⟨g,cap,cur,hv,h1,?_,h3⟩
  rw [hb g (by rw [hv];rfl)];exact h2
theorem OwnInts.lower {base' : Nat} (h:OwnInts w base e k A n c xs) (hb:base'≤base):OwnInts w base' e k A n c xs:=by
 refine ⟨⟨h.1.1,?_⟩,h.2⟩
 rcases h.1.2 with h1 | ⟨g,cap,cur,hv,h1,h2⟩
 ·exact .inl h1
 ·exact .inr ⟨g,cap,cur,hv,Nat.le_trans hb h1,h2⟩
end
def FileCells (cur:Array Value) (j:Nat) (f:FileD) (v:Value):Prop:=cur[j * 3]?=some (.string f.name)∧cur[j * 3+1]?=some v∧cur[j * 3+2]?=some (.int .i64 f.sure)∧f.name.size≤maxLen∧(Lit.int .i64 f.sure).wf=true
def rdData (w:World) (S:Nat→Prop) (v:Value) (bs:List Nat):Prop := ∃ A n c,v = .slice A n c∧BysIn w S A bs∧bs.length=n∧n≤c∧c≤maxLen
def RowAt (w:World) (S:Nat→Prop) (cur:Array Value) (fs:List FileD):Prop := ∀ (j:Nat) f,fs[j]?=some f→∃ v,FileCells cur j f v∧rdData w S v f.data
def OwnF (w:World) (base:Nat) (T:TypeId) (S:Nat→Prop) (A:Option Addr) (n c:Nat) (fs:List FileD):Prop :=
 fs.length=n∧n≤c∧c≤maxLen∧((A=none∧n=0∧c=0)∨∃ g cur,A=some ⟨g,0,none⟩∧base≤g∧w.heap[g]?=some (.cells cur T (0,0))∧cur.size=c * 3∧¬ S g∧RowAt w S cur fs)
theorem addr_eq {g g' : Nat} (h:(some (⟨g,0,none⟩:Addr))=some ⟨g',0,none⟩):g'=g:=by
 injection h with h
 injection h with h
 exact h.symm
section
variable {w w' : World} {base n c:Nat} {T:TypeId} {A:Option Addr} {fs:List FileD} {S S' : Nat→Prop} {cur:Array Value}
theorem rdData.keep {v:Value} {bs:List Nat} (h:rdData w S v bs) (hc:Alike S w w') (hS:∀ b,S b→S' b):rdData w' S' v bs:=by
 obtain ⟨A,n,c,h1,h2,h3⟩:=h
 exact ⟨A,n,c,h1,IntsIn.keep h2 hc hS,h3⟩
theorem RowAt.keep (h:RowAt w S cur fs) (hc:Alike S w w') (hS:∀ b,S b→S' b):RowAt w' S' cur fs:=fun j f hj=>by
 obtain ⟨v,h1,h2⟩:=h j f hj
 exact ⟨v,h1,h2.keep hc hS⟩
theorem OwnF.len (h:OwnF w base T S A n c fs):fs.length=n:=h.1
theorem OwnF.cap (h:OwnF w base T S A n c fs):n≤c∧c≤maxLen:=⟨h.2.1,h.2.2.1⟩
theorem OwnF.keep (h:OwnF w base T S A n c fs) (hg:∀ g,A=some ⟨g,0,none⟩→w'.heap[g]?=w.heap[g]?) (hS:Alike S w w'):OwnF w' base T S A n c fs:=by
 refine ⟨h.1,h.2.1,h.2.2.1,?_⟩
 rcases h.2.2.2 with h1 | ⟨g,cur,h1,h2,h3,h4,h5,h6⟩
 ·exact .inl h1
 ·exact .inr ⟨g,cur,h1,h2,(hg g h1).trans h3,h4,h5,h6.keep hS (fun _ h=>h)⟩
theorem OwnF.files (h:OwnF w base T S A n c fs) (hS:∀ b,S b→S' b) (hg:∀ g,A=some ⟨g,0,none⟩→S' g):FilesIn w S' A fs:=fun h0=>by
 rcases h.2.2.2 with ⟨_,h1,_⟩ | ⟨g,cur,h1,h2,h3,h4,h5,h6⟩
 ·have:=h.1;omega
 ·refine ⟨g,0,h1,hg g h1,fun j f hj=>?_⟩
  obtain ⟨v,⟨c0,c1,c2,c3,c4⟩,A',n',c',rfl,d1,d2,d3,d4⟩:=h6 j f hj
  refine ⟨[.string f.name,.slice A' n' c',.int .i64 f.sure],rfl,fun i u hi=>?_,A',n',c',rfl,c3,IntsIn.keep d1 (alike_refl _ _) hS,d2,d3,d4,c4⟩
  rw [Nat.zero_add,cell_of_row w g _ cur T (0,0) h3]
  match i,hi with
  | 0,hi=>simp at hi;subst hi;exact c0
  | 1,hi=>simp at hi;subst hi;exact c1
  | 2,hi=>simp at hi;subst hi;exact c2
theorem OwnF.of_elems (h:OwnElems rdFile 3 w base T S A n c fs) (hS:∀ g,A=some ⟨g,0,none⟩→¬ S g):OwnF w base T S A n c fs:=by
 have hcap:=h.cap
 obtain ⟨css,h1,h2,h3⟩:=h
 refine ⟨h3,hcap.1,hcap.2,?_⟩
 rcases h1.2 with ⟨hv,h0⟩ | ⟨g,cap,cur,hv,k1,k2,k3,k4,k5,k6⟩
 ·simp only [Value.slice.injEq] at hv
  exact .inl hv
 ·simp only [Value.slice.injEq,true_and] at hv
  obtain ⟨rfl,rfl⟩:=hv
  refine .inr ⟨g,cur,rfl,k1,k2,k5,hS g rfl,fun j f hj=>?_⟩
  obtain ⟨cs,hl,hc,A',n',c',rfl,q1,q2,q3,q4,q5,q6⟩:=h2.at_ hj
  have hjn:j < n:=by have:=(List.getElem?_eq_some_iff.1 hj).1;omega
  have key:∀ i u,([Value.string f.name,.slice A' n' c',.int .i64 f.sure]:List Value)[i]?=some u→cur[j * 3+i]?=some u:=fun i u hi=>by
   have h4:=hc i u hi
   have hi3:i < 3:=by have:=(List.getElem?_eq_some_iff.1 hi).1;simpa using this
   rw [← k6,List.getElem?_take,if_pos (by omega)] at h4
   rw [← Array.getElem?_toList];exact h4
  exact ⟨_,⟨key 0 _ rfl,key 1 _ rfl,key 2 _ rfl,q1,q6⟩,A',n',c',rfl,q2,q3,q4,q5⟩
end
theorem OwnF.of_empty {w:World} {base base' c:Nat} {T:TypeId} {S:Nat→Prop} {A:Option Addr} (h:OwnElems rdFile 3 w base T S A 0 c ([]:List FileD)) (hb:base'≤base):OwnF w base' T (fun _=>False) A 0 c []:=by
 have hcap:=h.cap
 obtain ⟨css,h1,h2,h3⟩:=h
 refine ⟨rfl,hcap.1,hcap.2,?_⟩
 rcases h1.2 with ⟨hv,h0⟩ | ⟨g,cap,cur,hv,k1,k2,k3,k4,k5,k6⟩
 ·simp only [Value.slice.injEq] at hv
  exact .inl ⟨hv.1,rfl,hv.2.2⟩
 ·simp only [Value.slice.injEq,true_and] at hv
  obtain ⟨rfl,rfl⟩:=hv
  exact .inr ⟨g,cur,rfl,Nat.le_trans hb k1,k2,k5,fun h=>h,fun j f hj=>by simp at hj⟩
theorem OwnF.lower {w:World} {base base' n c:Nat} {T:TypeId} {S:Nat→Prop} {A:Option Addr} {fs:List FileD} (h:OwnF w base T S A n c fs) (hb:base'≤base):OwnF w base' T S A n c fs:=by
 refine ⟨h.1,h.2.1,h.2.2.1,?_⟩
 rcases h.2.2.2 with h1 | ⟨g,cur,h1,h2,h3⟩
 ·exact .inl h1
 ·exact .inr ⟨g,cur,h1,Nat.le_trans hb h2,h3⟩
theorem RowAt.at_ {w:World} {S:Nat→Prop} {cur:Array Value} {fs:List FileD} (h:RowAt w S cur fs) {j:Nat} {f:FileD} (hj:fs[j]?=some f) :
  ∃ A n c,cur[j * 3]?=some (.string f.name)∧cur[j * 3+1]?=some (.slice A n c)∧cur[j * 3+2]?=some (.int .i64 f.sure)∧f.name.size≤maxLen∧inI f.sure∧BysIn w S A f.data∧Hid (f.data.length=n)∧n≤c∧c≤maxLen:=by
 obtain ⟨v,⟨c0,c1,c2,c3,c4⟩,A,n,c,rfl,d1,d2,d3,d4⟩:=h j f hj
 exact ⟨A,n,c,c0,c1,c2,c3,inI_of_wf c4,d1,Lib.hid d2,d3,d4⟩
def CopyInv (base:Nat) (T8:TypeId) (S:Nat→Prop) (cc:Nat) (fs:List FileD) (k:Nat) (w:World) (cur:Array Value):Prop :=
 cur.size=cc * 3 ∧
 (∀ (j:Nat) f,fs[j]?=some f→∃ v,FileCells cur j f v∧(k≤j→rdData w S v f.data)∧(j < k→∃ A n c,v = .slice A n c∧OwnBys w base T8 A n c f.data)) ∧
 (∀ i j vi vj b,i < j→j < k→cur[i * 3+1]?=some vi→cur[j * 3+1]?=some vj→vi.ownBlock=some b→vj.ownBlock≠some b)
theorem set_cell {cur:Array Value} {p i:Nat} (u:Value) (h:p≠i):(cur.setIfInBounds p u)[i]?=cur[i]?:=by
 rw [Array.getElem?_setIfInBounds];simp [h]
theorem set_cell_self {cur:Array Value} {p:Nat} (u:Value) (h:p < cur.size):(cur.setIfInBounds p u)[p]?=some u:=by
 rw [Array.getElem?_setIfInBounds];simp [h]
theorem CopyInv.step {base:Nat} {T8:TypeId} {S:Nat→Prop} {cc:Nat} {fs:List FileD} {k:Nat} {w w2 w3:World} {cur:Array Value} (h:CopyInv base T8 S cc fs k w cur) {f:FileD} (hk:fs[k]?=some f) (hkc:k < cc)
  {A2:Option Addr} {n2 c2:Nat} (ho:OwnBys w2 w.heap.size T8 A2 n2 c2 f.data) (hb:base≤w.heap.size) (hS:∀ b,S b→b < w.heap.size) {g:Nat} (hg:g < base) (hSg:¬ S g)
  (h2:∀ b,b < w.heap.size→w2.heap[b]?=w.heap[b]?) (h3:∀ b,b≠g→w3.heap[b]?=w2.heap[b]?) :
  CopyInv base T8 S cc fs (k+1) w3 (cur.setIfInBounds (k * 3+1) (.slice A2 n2 c2)):=by
 obtain ⟨i1,i2,i3⟩:=h
 have hk3:k * 3+1 < cur.size:=by rw [i1];omega
 have hold:∀ (j:Nat) f A n c,OwnBys w base T8 A n c f→OwnBys w3 base T8 A n c f:=fun j f A n c hh=>OwnInts.same hh fun b hb'=>by
  have:=OwnBys.block hh b hb'
  rw [h3 b (by omega),h2 b this.2]
 refine ⟨by simpa using i1,fun j f' hj=>?_,fun i j vi vj b hij hjk hvi hvj hvb=>?_⟩
 ·obtain ⟨v,⟨c0,c1,c2',c3⟩,d1,d2⟩:=i2 j f' hj
  by_cases e:j=k
  ·subst e
   obtain rfl:f=f':=by rw [hk] at hj;injection hj
   refine ⟨.slice A2 n2 c2,⟨by rw [set_cell _ (by omega)];exact c0,set_cell_self _ hk3,by rw [set_cell _ (by omega)];exact c2',c3⟩,fun h=>by omega,fun _=>⟨A2,n2,c2,rfl,?_⟩⟩
   refine OwnInts.lower (OwnInts.same ho fun b hb'=>?_) hb
   have:=OwnBys.block ho b hb'
   exact h3 b (by omega)
  ·refine ⟨v,⟨by rw [set_cell _ (by omega)];exact c0,by rw [set_cell _ (by omega)];exact c1,by rw [set_cell _ (by omega)];exact c2',c3⟩,fun h=>?_,fun h=>?_⟩
   ·exact (d1 (by omega)).keep (fun b o hSb=>World.cell?_of_block (by rw [h3 b (fun e2=>hSg (e2▸hSb)),h2 b (hS b hSb)])) (fun _ h=>h)
   ·obtain ⟨A,n,c,rfl,hh⟩:=d2 (by omega)
    exact ⟨A,n,c,rfl,hold j f'.data A n c hh⟩
 ·rw [set_cell _ (by omega)] at hvi
  by_cases e:j=k
  ·subst e
   rw [set_cell_self _ hk3] at hvj
   injection hvj with hvj
   subst hvj
   intro e2
   have h4:=OwnBys.block ho b e2
   have hi:i < fs.length:=by have:=(List.getElem?_eq_some_iff.1 hk).1;omega
   obtain ⟨v,⟨_,c1,_⟩,_,d2⟩:=i2 i fs[i] (List.getElem?_eq_getElem hi)
   obtain rfl:v=vi:=by rw [c1] at hvi;injection hvi
   obtain ⟨A,n,c,rfl,hh⟩:=d2 (by omega)
   have:=OwnBys.block hh b hvb
   omega
  ·rw [set_cell _ (by omega)] at hvj
   exact i3 i j vi vj b hij (by omega) hvi hvj hvb
def Apart (w:World) (base:Nat) (T8:TypeId) (S:Nat→Prop) (A:Option Addr) (fs:List FileD):Prop :=
 ∀ g cur T,A=some ⟨g,0,none⟩→w.heap[g]?=some (.cells cur T (0,0))→∀ (i:Nat) f,fs[i]?=some f→∃ Ai ni ci,cur[i * 3+1]?=some (.slice Ai ni ci)∧OwnBys w base T8 Ai ni ci f.data∧(Value.slice Ai ni ci).ownBlock≠some g ∧
  ∀ (j:Nat) f',j≠i→fs[j]?=some f'→∃ v,FileCells cur j f' v∧rdData w (fun b=>S b∧(Value.slice Ai ni ci).ownBlock≠some b) v f'.data
theorem Apart.lower {w:World} {base base' : Nat} {T8:TypeId} {S:Nat→Prop} {A:Option Addr} {fs:List FileD} (h:Apart w base T8 S A fs) (hb:base'≤base):Apart w base' T8 S A fs:=fun g cur T hA hE i f hi=>by
 obtain ⟨Ai,ni,ci,h1,h2,h3⟩:=h g cur T hA hE i f hi
 exact ⟨Ai,ni,ci,h1,OwnInts.lower h2 hb,h3⟩
theorem Apart.keep {w w' : World} {base:Nat} {T8:TypeId} {S:Nat→Prop} {A:Option Addr} {fs:List FileD} (h:Apart w base T8 S A fs) (hg:∀ g,A=some ⟨g,0,none⟩→w'.heap[g]?=w.heap[g]?) (hb:∀ b,base≤b→b < w.heap.size→S b→w'.heap[b]?=w.heap[b]?)
  (hS:∀ b,S b→base≤b∧b < w.heap.size) (hO:∀ b,base≤b→b < w.heap.size→A≠some ⟨b,0,none⟩→w'.heap[b]?=w.heap[b]?):Apart w' base T8 S A fs:=fun g cur T hA hE i f hi=>by
 obtain ⟨Ai,ni,ci,h1,h2,h3,h4⟩:=h g cur T hA ((hg g hA).symm.trans hE) i f hi
 refine ⟨Ai,ni,ci,h1,OwnInts.same h2 fun b hb'=>hO b (OwnBys.block h2 b hb').1 (OwnBys.block h2 b hb').2 (fun e=>h3 (by rw [hb'];rw [hA] at e;injection e with e;injection e with e;rw [e])),h3,fun j f' hij hj=>?_⟩
 obtain ⟨v,k1,k2⟩:=h4 j f' hij hj
 exact ⟨v,k1,k2.keep (fun b o hSb=>World.cell?_of_block (hb b (hS b hSb.1).1 (hS b hSb.1).2 hSb.1)) (fun _ h=>h)⟩
theorem CopyInv.done {base:Nat} {T8 T:TypeId} {S:Nat→Prop} {cc:Nat} {fs:List FileD} {k:Nat} {w:World} {cur:Array Value} (h:CopyInv base T8 S cc fs fs.length w cur) {g:Nat} (hg:g < base)
  (hE:w.heap[g]?=some (.cells cur T (0,0))) (hn:fs.length=k) (hkc:k≤cc) (hcm:cc≤maxLen) {b0:Nat} (hb0:b0≤g) :
  OwnF w b0 T (fun b=>base≤b∧b < w.heap.size) (some ⟨g,0,none⟩) k cc fs∧Apart w base T8 (fun b=>base≤b∧b < w.heap.size) (some ⟨g,0,none⟩) fs:=by
 obtain ⟨i1,i2,i3⟩:=h
 have own:∀ (j:Nat) f,fs[j]?=some f→∃ A n c,FileCells cur j f (.slice A n c)∧OwnBys w base T8 A n c f.data:=fun j f hj=>by
  obtain ⟨v,c0,_,d2⟩:=i2 j f hj
  obtain ⟨A,n,c,rfl,hh⟩:=d2 (List.getElem?_eq_some_iff.1 hj).1
  exact ⟨A,n,c,c0,hh⟩
 refine ⟨⟨hn,hkc,hcm,.inr ⟨g,cur,rfl,hb0,hE,i1,fun h=>by omega,fun j f hj=>?_⟩⟩,?_⟩
 ·obtain ⟨A,n,c,c0,hh⟩:=own j f hj
  exact ⟨_,c0,A,n,c,rfl,IntsIn.keep (OwnInts.owned hh) (alike_refl _ _) (fun b hb=>OwnBys.block hh b hb),OwnBys.len hh,(OwnInts.cap hh).1,(OwnInts.cap hh).2⟩
 ·intro g' cur' T' hA hE' i f hi
  injection hA with hA
  obtain rfl:g=g':=by injection hA
  rw [hE] at hE'
  injection hE' with hE'
  obtain ⟨rfl,rfl⟩:cur=cur'∧T=T':=by injection hE' with e1 e2;exact ⟨e1,e2⟩
  obtain ⟨A,n,c,c0,hh⟩:=own i f hi
  refine ⟨A,n,c,c0.2.1,hh,fun e=>by have:=OwnBys.block hh g e;omega,fun j f' hij hj=>?_⟩
  obtain ⟨A',n',c',c0',hh'⟩:=own j f' hj
  refine ⟨_,c0',A',n',c',rfl,IntsIn.keep (OwnInts.owned hh') (alike_refl _ _) (fun b hb=>⟨OwnBys.block hh' b hb,fun e=>?_⟩),OwnBys.len hh',(OwnInts.cap hh').1,(OwnInts.cap hh').2⟩
  have hil:=(List.getElem?_eq_some_iff.1 hi).1
  have hjl:=(List.getElem?_eq_some_iff.1 hj).1
  rcases Nat.lt_or_gt_of_ne hij with h1 | h1
  ·exact i3 j i _ _ b h1 hil c0'.2.1 c0.2.1 hb e
  ·exact i3 i j _ _ b h1 hjl c0.2.1 c0'.2.1 e hb
theorem OwnF.start {w:World} {base:Nat} {T T8:TypeId} {S:Nat→Prop} {g n c:Nat} {fs:List FileD} (h:OwnF w base T S (some ⟨g,0,none⟩) n c fs) (B:Nat) :
  ∃ cur,w.heap[g]?=some (.cells cur T (0,0))∧base≤g∧¬ S g∧CopyInv B T8 S c fs 0 w cur:=by
 rcases h.2.2.2 with ⟨h1,_⟩ | ⟨g',cur,h1,h2,h3,h4,h5,h6⟩
 ·cases h1
 ·injection h1 with h1
  obtain rfl:g=g':=by injection h1
  exact ⟨cur,h3,h2,h5,h4,fun j f hj=>by
   obtain ⟨v,k1,k2⟩:=h6 j f hj
   exact ⟨v,k1,fun _=>k2,fun h=>absurd h (Nat.not_lt_zero _)⟩,fun i j _ _ _ _ h=>absurd h (Nat.not_lt_zero _)⟩
end Go.Proofs.Ytlipgnenbdchmaa
end
section
namespace Go.Proofs.Ytlipgnenbdchmaa
set_option maxRecDepth 20000
open Go.RowKit
theorem run_cut_upto {P:Program} (t e size bytes:Nat) (z:Value) (ht:P.underlying t=some (.slice e)) (hinfo:(P.info? e).map (fun i=>(i.zero,i.size,i.bytes))=some (some z,size,bytes))
  (A:Option Addr) (n c k:Nat) (x:Int) (hx:x=(k:Int)) (hk:k≤c) (w:World):(Instr.slice t (.slice A n c) none (some (.int .i64 x)) none).run P w = .ok (.slice A k c) w:=by
 subst hx
 obtain ⟨i,hi,_,hsz,_⟩:=info_parts hinfo
 have he:P.elem t=e:=by simp [Program.elem,ht]
 rw [run_slice_h (P:=P) (w:=w) t A n c (by rw [he];exact ht) .i64 (k:Int) (by omega) (by omega),he]
 rcases A with _ | ⟨b,off,sp⟩
 ·simp [sizeOf,typeInfo,hi,Result.andThen,sliced]
 ·simp [sizeOf,typeInfo,hi,Result.andThen,sliced,Addr.add]
theorem Elems.cut {α:Type} {R:Rd α} {size:Nat} {w:World} {S:Nat→Prop} {A:Option Addr} {xs:List α} (h:Elems R size w S A xs) (m cap:Nat) (hc:xs.length≤cap):Elems R size w S (cutAt A cap m size) (xs.drop m):=fun h0=>by
 rw [List.length_drop] at h0
 obtain ⟨b,off,rfl,hb,hj⟩:=h (by omega)
 have hne:¬ cap=m:=by omega
 refine ⟨b,off+m * size,by simp [cutAt,hne,Addr.add],hb,fun j x hx=>?_⟩
 rw [List.getElem?_drop] at hx
 obtain ⟨cs,h1,h2,h3⟩:=hj (m+j) x hx
 refine ⟨cs,h1,fun i c hic=>?_,h3⟩
 have:=h2 i c hic
 rw [Nat.add_mul] at this
 rw [← this]
 congr 2
 omega
end Go.Proofs.Ytlipgnenbdchmaa
end
section
namespace Go.Proofs.Ytlipgnenbdchmaa.disk
set_option maxRecDepth 20000
open Go.RowKit
end Go.Proofs.Ytlipgnenbdchmaa.disk
end
