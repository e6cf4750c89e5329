/-
  Elems
-/
import Derived.Test.YtcpahggkioagkaaMvf04
import Derived.Maps.AppendAt
set_option linter.unusedVariables false
set_option linter.unusedSimpArgs false
namespace Go.Proofs.Ytcpahggkioagkaa
set_option maxRecDepth 20000
open Go.RowKit
def Each {α:Type} (R:Rd α) (size:Nat) (w:World) (S:Nat→Prop):List (List Value)→List α→Prop
 | [],[]=>True
 |cs :: css,x :: xs=>cs.length=size∧R w S cs x∧Each R size w S css xs
 | _,_=>False
section
variable {α:Type} {R:Rd α} {size:Nat} {w w' : World} {S S' : Nat→Prop}
theorem Each.len {css:List (List Value)} {xs:List α} (h:Each R size w S css xs):css.length=xs.length∧css.flatten.length=xs.length * size:=by
 induction css generalizing xs with
 |nil=>cases xs with
  |nil=>simp
  |cons _ _=>cases h
 |cons cs css ih=>cases xs with
  |nil=>cases h
  |cons x xs =>
   have:=ih h.2.2
   simp only [List.length_cons,List.flatten_cons,List.length_append,h.1,this.1,this.2,Nat.succ_mul]
   exact ⟨trivial,by omega⟩
theorem Each.at_ {css:List (List Value)} {xs:List α} (h:Each R size w S css xs) {j:Nat} {x:α} (hj:xs[j]?=some x):∃ cs,cs.length=size∧(∀ i c,cs[i]?=some c→css.flatten[j * size+i]?=some c)∧R w S cs x:=by
 induction css generalizing xs j with
 |nil=>cases xs with
  |nil=>simp at hj
  |cons _ _=>cases h
 |cons cs css ih=>cases xs with
  |nil=>cases h
  |cons y xs =>
   cases j with
   |zero =>
    simp at hj;subst hj
    refine ⟨cs,h.1,fun i c hi=>?_,h.2.1⟩
    rw [List.flatten_cons,Nat.zero_mul,Nat.zero_add,List.getElem?_append_left (List.getElem?_eq_some_iff.1 hi).1]
    exact hi
   |succ j =>
    obtain ⟨cs',hl,hc,hr⟩:=ih h.2.2 (j:=j) (by simpa using hj)
    refine ⟨cs',hl,fun i c hi=>?_,hr⟩
    rw [List.flatten_cons,List.getElem?_append_right (by rw [h.1,Nat.succ_mul];omega),h.1,show (j+1) * size+i - size=j * size+i by rw [Nat.succ_mul];omega]
    exact hc i c hi
theorem Each.keep (hR:Keeps R) {css:List (List Value)} {xs:List α} (h:Each R size w S css xs) (hc:Alike S w w') (hS:∀ b,S b→S' b):Each R size w' S' css xs:=by
 induction css generalizing xs with
 |nil=>cases xs with
  |nil=>trivial
  |cons _ _=>cases h
 |cons cs css ih=>cases xs with
  |nil=>cases h
  |cons x xs=>exact ⟨h.1,hR _ _ _ _ _ _ h.2.1 hc hS,ih h.2.2⟩
theorem Each.append {css dss:List (List Value)} {xs ys:List α} (h:Each R size w S css xs) (g:Each R size w S dss ys):Each R size w S (css++dss) (xs++ys):=by
 induction css generalizing xs with
 |nil=>cases xs with
  |nil=>exact g
  |cons _ _=>cases h
 |cons cs css ih=>cases xs with
  |nil=>cases h
  |cons x xs=>exact ⟨h.1,h.2.1,ih h.2.2⟩
theorem Each.leaf (hL:Leaf R) {css:List (List Value)} {xs:List α} (h:Each R size w S css xs):∀ c ∈ css.flatten,c.oneCell'=true:=by
 induction css generalizing xs with
 |nil=>simp
 |cons cs css ih=>cases xs with
  |nil=>cases h
  |cons x xs =>
   intro c hc
   rw [List.flatten_cons] at hc
   rcases List.mem_append.1 hc with h1 | h1
   ·exact hL _ _ _ _ h.2.1 c h1
   ·exact ih h.2.2 c h1
theorem Elems.each {A:Option Addr} {xs:List α} (h:Elems R size w S A xs):∃ css,Each R size w S css xs∧(0 < xs.length→∃ b off,A=some ⟨b,off,none⟩∧S b∧∀ j c,css.flatten[j]?=some c→w.cell? ⟨b,off+j,none⟩=some c):=by
 by_cases h0:0 < xs.length
 ·obtain ⟨b,off,e,hb,hc⟩:=h h0
  have key:∀ (ys:List α) (k:Nat),(∀ j x,ys[j]?=some x→xs[k+j]?=some x)→∃ css,Each R size w S css ys∧∀ j c,css.flatten[j]?=some c→w.cell? ⟨b,off+k * size+j,none⟩=some c:=by
   intro ys
   induction ys with
   |nil=>intro k _;exact ⟨[],trivial,by simp⟩
   |cons y ys ih =>
    intro k hk
    obtain ⟨cs,hl,hcs,hr⟩:=hc k y (hk 0 y rfl)
    obtain ⟨css,h1,h2⟩:=ih (k+1) (fun j x hj=>by have:=hk (j+1) x (by simpa using hj);rw [show k+1+j=k+(j+1) by omega];exact this)
    refine ⟨cs :: css,⟨hl,hr,h1⟩,fun j c hj=>?_⟩
    rw [List.flatten_cons] at hj
    by_cases hlt:j < cs.length
    ·rw [List.getElem?_append_left hlt] at hj
     exact hcs j c hj
    ·rw [List.getElem?_append_right (by omega)] at hj
     have:=h2 (j - cs.length) c hj
     rw [show off+(k+1) * size+(j - cs.length)=off+k * size+j by rw [Nat.succ_mul];omega] at this
     exact this
  obtain ⟨css,h1,h2⟩:=key xs 0 (fun j x hj=>by simpa using hj)
  exact ⟨css,h1,fun _=>⟨b,off,e,hb,fun j c hj=>by simpa using h2 j c hj⟩⟩
 ·have:xs=[]:=List.eq_nil_of_length_eq_zero (by omega)
  subst this
  exact ⟨[],trivial,fun h=>absurd h h0⟩
end
def OwnElems {α:Type} (R:Rd α) (size:Nat) (w:World) (base:Nat) (e:TypeId) (S:Nat→Prop) (A:Option Addr) (n c:Nat) (xs:List α):Prop :=
 ∃ css,w.ownsRow base e size (.slice A n c) n css.flatten∧Each R size w S css xs∧xs.length=n
section
variable {α:Type} {R:Rd α} {size:Nat} {w w' : World} {base:Nat} {e:TypeId} {S S' : Nat→Prop} {A:Option Addr} {n c:Nat} {xs:List α}
theorem OwnElems.nil:OwnElems R size w base e S none 0 0 ([]:List α):=⟨[],World.ownsRow_nil _ _ _ _,trivial,rfl⟩
theorem OwnElems.len (h:OwnElems R size w base e S A n c xs):xs.length=n:=by obtain ⟨_,_,_,h3⟩:=h;exact h3
theorem OwnElems.block (h:OwnElems R size w base e S A n c xs):∀ g,(Value.slice A n c).ownBlock=some g→base≤g∧g < w.heap.size:=by obtain ⟨_,h1,_,_⟩:=h;exact h1.lt
theorem OwnElems.alloc (hR:Keeps R) (h:OwnElems R size w base e S A n c xs) (hS:∀ b,S b→b < w.heap.size) (o:Obj):OwnElems R size (w.alloc o) base e S A n c xs:=by
 obtain ⟨css,h1,h2,h3⟩:=h
 exact ⟨css,h1.alloc o,h2.keep hR (fun b o' hb=>World.cell?_alloc_lt w o _ (hS b hb)) (fun _ h=>h),h3⟩
theorem OwnElems.drew (hR:Keeps R) (h:OwnElems R size w base e S A n c xs):OwnElems R size w.drew base e S A n c xs:=by
 obtain ⟨css,h1,h2,h3⟩:=h
 exact ⟨css,h1,h2.keep hR (fun _ _ _=>rfl) (fun _ h=>h),h3⟩
theorem OwnElems.cap (h:OwnElems R size w base e S A n c xs):n≤c∧c≤maxLen:=by
 obtain ⟨css,h1,_,_⟩:=h
 rcases h1.2 with ⟨hv,h0⟩ | ⟨g,cap,cur,hv,_,_,h2,h3,_⟩
 ·simp only [Value.slice.injEq] at hv
  obtain ⟨_,rfl,rfl⟩:=hv
  exact ⟨Nat.le_refl _,by unfold maxLen;omega⟩
 ·simp only [Value.slice.injEq,true_and] at hv
  obtain ⟨_,rfl⟩:=hv
  exact ⟨h2,h3⟩
theorem OwnElems.elems (hR:Keeps R) (hs:0 < size) (h:OwnElems R size w base e S A n c xs) (hS:∀ b,S b→S' b) (hown:∀ g,base≤g→g < w.heap.size→S' g):Elems R size w S' A xs:=fun h0=>by
 obtain ⟨css,h1,h2,h3⟩:=h
 obtain ⟨g,cap,hv,hb,hlt⟩:=World.ownsRow.form h1 (by omega)
 have hA:A=some ⟨g,0,none⟩:=by injection hv
 subst hA
 refine ⟨g,0,rfl,hown g hb hlt,fun j x hj=>?_⟩
 obtain ⟨cs,hl,hc,hr⟩:=h2.at_ hj
 refine ⟨cs,hl,fun i c hi=>?_,hR _ _ _ _ _ _ hr (alike_refl _ _) hS⟩
 have h4:=hc i c hi
 have hj' : j < n:=by have:=(List.getElem?_eq_some_iff.1 hj).1;omega
 have hi' : i < size:=by have:=(List.getElem?_eq_some_iff.1 hi).1;omega
 have hlt2:j * size+i < n * size:=by
  have:(j+1) * size≤n * size:=Nat.mul_le_mul_right _ (by omega)
  rw [Nat.succ_mul] at this
  omega
 rw [Nat.zero_add,World.ownsRow.cellAt h1 (j * size+i) hlt2]
 exact h4
end
theorem block_cell {w:World} {g:Nat} {cs:Array Value} {t:TypeId} (h:w.heap[g]?=some (.cells cs t (0,0))) (i:Nat) (v:Value) (hv:cs[i]?=some v):w.cell? ⟨g,i,none⟩=some v∧w.frozen? ⟨g,i,none⟩=false :=
 ⟨(cell_of_row w g i cs t (0,0) h).trans hv,frozen_of_row w g i cs t h⟩
theorem run_append_elems {P:Program} {w:World} {α:Type} {R:Rd α} (hR:Keeps R) (hL:Leaf R) {size:Nat} (hsz0:0 < size) (base:Nat) (t ty e:TypeId) (z:Value) (bytes:Nat) (ht:P.underlying t=some (.slice e))
  (hinfo:(P.info? e).map (fun i=>(i.zero,i.size,i.bytes))=some (some z,size,bytes)) (hzs:z.cells.size=size)
  {S:Nat→Prop} {A:Option Addr} {n c:Nat} {xs:List α} (hown:OwnElems R size w base e S A n c xs) {S3:Nat→Prop} {A2:Option Addr} {m c2:Nat} {ys:List α} {dss:List (List Value)} (heach2:Each R size w S3 dss ys) (hcells:0 < m→∃ b off,A2=some ⟨b,off,none⟩∧∀ j c,dss.flatten[j]?=some c→w.cell? ⟨b,off+j,none⟩=some c) (hm:ys.length=m)
  (h13:∀ b,S b→S3 b) (h3:∀ b,S3 b→b < w.heap.size∧some b≠(Value.slice A n c).ownBlock)
  (h63:n+m≤maxLen) (hbytes:(n+m) * bytes≤140737488355328) (hbase:base≤w.heap.size) :
  ∃ A' c' w',(Builtin.append_ #[t,t] ty #[.slice A n c,.slice A2 m c2]).run P w = .ok (.slice A' (n+m) c') w'∧OwnElems R size w' base e S3 A' (n+m) c' (xs++ys) ∧
   w.grownBy w' (Value.slice A n c).ownBlock∧((Value.slice A' (n+m) c').ownBlock=(Value.slice A n c).ownBlock∨(Value.slice A' (n+m) c').ownBlock=some w.heap.size):=by
 obtain ⟨i,hi,hz,hsz,hby⟩:=info_parts hinfo
 obtain ⟨css,hrow,heach,hlen⟩:=hown
 have hall:Each R size w S3 (css++dss) (xs++ys):=(heach.keep hR (alike_refl _ _) h13).append heach2
 have hkeep:∀ w',w.grownBy w' (Value.slice A n c).ownBlock→Each R size w' S3 (css++dss) (xs++ys):=fun w' hg =>
  hall.keep hR (fun b o hb=>World.cell?_of_block (hg.block b (h3 b hb).1 (h3 b hb).2)) (fun _ h=>h)
 have hxl:(xs++ys).length=n+m:=by rw [List.length_append,hlen,hm]
 by_cases h0:m=0
 ·subst h0
  have hys0:ys=[]:=List.eq_nil_of_length_eq_zero hm
  subst hys0
  have hd0:dss=[]:=List.eq_nil_of_length_eq_zero (by have:=heach2.len.1;simpa using this)
  subst hd0
  rw [List.append_nil] at hkeep
  rcases A2 with _ | ad
  ·refine ⟨A,c,w,run_append_no_address base t ty e i size ht hi _ n _ hrow c2,⟨css,by simpa using hrow,?_,hxl⟩,World.grownBy.refl w _,.inl rfl⟩
   exact hkeep w (World.grownBy.refl w _)
  ·obtain ⟨v',w',hrun,h2,h3',_,h5⟩:=run_append_own_at (P:=P) w base t ty e i z size bytes ht hi hz hsz hby hzs hsz0 _ n _ hrow ad 0 c2 [] (by simp) (by simp) (by simp) h63 hbytes hbase
   have hf:=h2
   rcases h2.2 with ⟨rfl,hn0⟩ | ⟨g,cap,cur,rfl,_⟩
   ·refine ⟨none,0,w',by rw [hrun,hn0],⟨css,?_,hkeep w' h3',hxl⟩,h3',?_⟩
    ·rw [hn0] at hf ⊢;simpa using hf
    ·rw [hn0];exact h5
   ·exact ⟨some ⟨g,0,none⟩,cap,w',hrun,⟨css,by simpa using hf,hkeep w' h3',hxl⟩,h3',h5⟩
 ·obtain ⟨b,off,rfl,hc⟩:=hcells (by omega)
  obtain ⟨v',w',hrun,h2,h3',_,h5⟩:=run_append_own_at (P:=P) w base t ty e i z size bytes ht hi hz hsz hby hzs hsz0 _ n _ hrow ⟨b,off,none⟩ m c2 dss.flatten (by rw [heach2.len.2,hm])
   (by
    intro j u hj
    rw [← hc j u hj]
    by_cases hj0:j=0<;>simp [Addr.add,hj0])
   (heach2.leaf hL) h63 hbytes hbase
  obtain ⟨g,cap,rfl,_,_⟩:=World.ownsRow.form h2 (by omega)
  exact ⟨_,_,w',hrun,⟨css++dss,by rw [List.flatten_append];exact h2,hkeep w' h3',hxl⟩,h3',h5⟩
end Go.Proofs.Ytcpahggkioagkaa
