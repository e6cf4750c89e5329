/-
  Elems, Files, Files2, Out, DiskAwakeM, Off, Row, Cut
-/
import Derived.Test.YtalhdalinpdanaaGreatDoorMwl04
import Derived.Maps.AppendAt
import Derived.WalkKit
import Derived.Test.YtalhdalinpdanaaGreatDoorMwl02
set_option linter.unusedVariables false
set_option linter.unusedSimpArgs false
section
namespace Go.Proofs.YtalhdalinpdanaaGreatDoor
set_option maxRecDepth 20000
open Go.RowKit
def Each {α:Type} (R:Rd α) (size:Nat) (w:World) (S:Nat→Prop):List (List Value)→List α→Prop
 | [],[]=>True
 |cs :: css,x :: xs=>cs.length=size∧R w S cs x∧Each R size w S css xs
 | _,_=>False
section
variable {α:Type} {R:Rd α} {size:Nat} {w w' : World} {S S' : Nat→Prop}
theorem Each.len {css:List (List Value)} {xs:List α} (h:Each R size w S css xs):css.length=xs.length∧css.flatten.length=xs.length * size:=by
 induction css generalizing xs with
 |nil=>cases xs with
  |nil=>simp
  |cons _ _=>cases h
 |cons cs css ih=>cases xs with
  |nil=>cases h
  |cons x xs =>
   have:=ih h.2.2
   simp only [List.length_cons,List.flatten_cons,List.length_append,h.1,this.1,this.2,Nat.succ_mul]
   exact ⟨trivial,by omega⟩
theorem Each.at_ {css:List (List Value)} {xs:List α} (h:Each R size w S css xs) {j:Nat} {x:α} (hj:xs[j]?=some x):∃ cs,cs.length=size∧(∀ i c,cs[i]?=some c→css.flatten[j * size+i]?=some c)∧R w S cs x:=by
 induction css generalizing xs j with
 |nil=>cases xs with
  |nil=>simp at hj
  |cons _ _=>cases h
 |cons cs css ih=>cases xs with
  |nil=>cases h
  |cons y xs =>
   cases j with
   |zero =>
    simp at hj;subst hj
    refine ⟨cs,h.1,fun i c hi=>?_,h.2.1⟩
    rw [List.flatten_cons,Nat.zero_mul,Nat.zero_add,List.getElem?_append_left (List.getElem?_eq_some_iff.1 hi).1]
    exact hi
   |succ j =>
    obtain ⟨cs',hl,hc,hr⟩:=ih h.2.2 (j:=j) (by simpa using hj)
    refine ⟨cs',hl,fun i c hi=>?_,hr⟩
    rw [List.flatten_cons,List.getElem?_append_right (by rw [h.1,Nat.succ_mul];omega),h.1,show (j+1) * size+i - size=j * size+i by rw [Nat.succ_mul];omega]
    exact hc i c hi
theorem Each.keep (hR:Keeps R) {css:List (List Value)} {xs:List α} (h:Each R size w S css xs) (hc:Alike S w w') (hS:∀ b,S b→S' b):Each R size w' S' css xs:=by
 induction css generalizing xs with
 |nil=>cases xs with
  |nil=>trivial
  |cons _ _=>cases h
 |cons cs css ih=>cases xs with
  |nil=>cases h
  |cons x xs=>exact ⟨h.1,hR _ _ _ _ _ _ h.2.1 hc hS,ih h.2.2⟩
theorem Each.append {css dss:List (List Value)} {xs ys:List α} (h:Each R size w S css xs) (g:Each R size w S dss ys):Each R size w S (css++dss) (xs++ys):=by
 induction css generalizing xs with
 |nil=>cases xs with
  |nil=>exact g
  |cons _ _=>cases h
 |cons cs css ih=>cases xs with
  |nil=>cases h
  |cons x xs=>exact ⟨h.1,h.2.1,ih h.2.2⟩
theorem Each.leaf (hL:Leaf R) {css:List (List Value)} {xs:List α} (h:Each R size w S css xs):∀ c ∈ css.flatten,c.oneCell'=true:=by
 induction css generalizing xs with
 |nil=>simp
 |cons cs css ih=>cases xs with
  |nil=>cases h
  |cons x xs =>
   intro c hc
   rw [List.flatten_cons] at hc
   rcases List.mem_append.1 hc with h1 | h1
   ·exact hL _ _ _ _ h.2.1 c h1
   ·exact ih h.2.2 c h1
theorem Elems.each {A:Option Addr} {xs:List α} (h:Elems R size w S A xs):∃ css,Each R size w S css xs∧(0 < xs.length→∃ b off,A=some ⟨b,off,none⟩∧S b∧∀ j c,css.flatten[j]?=some c→w.cell? ⟨b,off+j,none⟩=some c):=by
 by_cases h0:0 < xs.length
 ·obtain ⟨b,off,e,hb,hc⟩:=h h0
  have key:∀ (ys:List α) (k:Nat),(∀ j x,ys[j]?=some x→xs[k+j]?=some x)→∃ css,Each R size w S css ys∧∀ j c,css.flatten[j]?=some c→w.cell? ⟨b,off+k * size+j,none⟩=some c:=by
   intro ys
   induction ys with
   |nil=>intro k _;exact ⟨[],trivial,by simp⟩
   |cons y ys ih =>
    intro k hk
    obtain ⟨cs,hl,hcs,hr⟩:=hc k y (hk 0 y rfl)
    obtain ⟨css,h1,h2⟩:=ih (k+1) (fun j x hj=>by have:=hk (j+1) x (by simpa using hj);rw [show k+1+j=k+(j+1) by omega];exact this)
    refine ⟨cs :: css,⟨hl,hr,h1⟩,fun j c hj=>?_⟩
    rw [List.flatten_cons] at hj
    by_cases hlt:j < cs.length
    ·rw [List.getElem?_append_left hlt] at hj
     exact hcs j c hj
    ·rw [List.getElem?_append_right (by omega)] at hj
     have:=h2 (j - cs.length) c hj
     rw [show off+(k+1) * size+(j - cs.length)=off+k * size+j by rw [Nat.succ_mul];omega] at this
     exact this
  obtain ⟨css,h1,h2⟩:=key xs 0 (fun j x hj=>by simpa using hj)
  exact ⟨css,h1,fun _=>⟨b,off,e,hb,fun j c hj=>by simpa using h2 j c hj⟩⟩
 ·have:xs=[]:=List.eq_nil_of_length_eq_zero (by omega)
  subst this
  exact ⟨[],trivial,fun h=>absurd h h0⟩
end
def OwnElems {α:Type} (R:Rd α) (size:Nat) (w:World) (base:Nat) (e:TypeId) (S:Nat→Prop) (A:Option Addr) (n c:Nat) (xs:List α):Prop :=
 ∃ css,w.ownsRow base e size (.slice A n c) n css.flatten∧Each R size w S css xs∧xs.length=n
section
variable {α:Type} {R:Rd α} {size:Nat} {w w' : World} {base:Nat} {e:TypeId} {S S' : Nat→Prop} {A:Option Addr} {n c:Nat} {xs:List α}
theorem OwnElems.nil:OwnElems R size w base e S none 0 0 ([]:List α):=⟨[],World.ownsRow_nil _ _ _ _,trivial,rfl⟩
theorem OwnElems.len (h:OwnElems R size w base e S A n c xs):xs.length=n:=by obtain ⟨_,_,_,h3⟩:=h;exact h3
theorem OwnElems.block (h:OwnElems R size w base e S A n c xs):∀ g,(Value.slice A n c).ownBlock=some g→base≤g∧g < w.heap.size:=by obtain ⟨_,h1,_,_⟩:=h;exact h1.lt
theorem OwnElems.alloc (hR:Keeps R) (h:OwnElems R size w base e S A n c xs) (hS:∀ b,S b→b < w.heap.size) (o:Obj):OwnElems R size (w.alloc o) base e S A n c xs:=by
 obtain ⟨css,h1,h2,h3⟩:=h
 exact ⟨css,h1.alloc o,h2.keep hR (fun b o' hb=>World.cell?_alloc_lt w o _ (hS b hb)) (fun _ h=>h),h3⟩
theorem OwnElems.drew (hR:Keeps R) (h:OwnElems R size w base e S A n c xs):OwnElems R size w.drew base e S A n c xs:=by
 obtain ⟨css,h1,h2,h3⟩:=h
 exact ⟨css,h1,h2.keep hR (fun _ _ _=>rfl) (fun _ h=>h),h3⟩
theorem OwnElems.drewN (hR:Keeps R) (h:OwnElems R size w base e S A n c xs) (m:Nat):OwnElems R size (w.drewN m) base e S A n c xs:=by
 obtain ⟨css,h1,h2,h3⟩:=h
 exact ⟨css,h1,h2.keep hR (fun _ _ _=>rfl) (fun _ h=>h),h3⟩
theorem OwnElems.cap (h:OwnElems R size w base e S A n c xs):n≤c∧c≤maxLen:=by
 obtain ⟨css,h1,_,_⟩:=h
 rcases h1.2 with ⟨hv,h0⟩ | ⟨g,cap,cur,hv,_,_,h2,h3,_⟩
 ·simp only [Value.slice.injEq] at hv
  obtain ⟨_,rfl,rfl⟩:=hv
  exact ⟨Nat.le_refl _,by unfold maxLen;omega⟩
 ·simp only [Value.slice.injEq,true_and] at hv
  obtain ⟨_,rfl⟩:=hv
  exact ⟨h2,h3⟩
theorem OwnElems.elems (hR:Keeps R) (hs:0 < size) (h:OwnElems R size w base e S A n c xs) (hS:∀ b,S b→S' b) (hown:∀ g,base≤g→g < w.heap.size→S' g):Elems R size w S' A xs:=fun h0=>by
 obtain ⟨css,h1,h2,h3⟩:=h
 obtain ⟨g,cap,hv,hb,hlt⟩:=World.ownsRow.form h1 (by omega)
 have hA:A=some ⟨g,0,none⟩:=by injection hv
 subst hA
 refine ⟨g,0,rfl,hown g hb hlt,fun j x hj=>?_⟩
 obtain ⟨cs,hl,hc,hr⟩:=h2.at_ hj
 refine ⟨cs,hl,fun i c hi=>?_,hR _ _ _ _ _ _ hr (alike_refl _ _) hS⟩
 have h4:=hc i c hi
 have hj' : j < n:=by have:=(List.getElem?_eq_some_iff.1 hj).1;omega
 have hi' : i < size:=by have:=(List.getElem?_eq_some_iff.1 hi).1;omega
 have hlt2:j * size+i < n * size:=by
  have:(j+1) * size≤n * size:=Nat.mul_le_mul_right _ (by omega)
  rw [Nat.succ_mul] at this
  omega
 rw [Nat.zero_add,World.ownsRow.cellAt h1 (j * size+i) hlt2]
 exact h4
end
theorem block_cell {w:World} {g:Nat} {cs:Array Value} {t:TypeId} (h:w.heap[g]?=some (.cells cs t (0,0))) (i:Nat) (v:Value) (hv:cs[i]?=some v):w.cell? ⟨g,i,none⟩=some v∧w.frozen? ⟨g,i,none⟩=false :=
 ⟨(cell_of_row w g i cs t (0,0) h).trans hv,frozen_of_row w g i cs t h⟩
theorem each_one {α:Type} {R:Rd α} {size:Nat} {w:World} {S:Nat→Prop} {cs:List Value} {x:α} (hl:cs.length=size) (h:R w S cs x):Each R size w S [cs] [x]:=⟨hl,h,trivial⟩
theorem cells_new {w:World} {t:TypeId} {cs:Array Value} {l:List Value} (he:cs.toList=l) (m:Nat) :
  0 < m→∃ b off,(some ⟨w.heap.size,0,none⟩:Option Addr)=some ⟨b,off,none⟩∧∀ j c,[l].flatten[j]?=some c→(w.alloc (.cells cs t)).cell? ⟨b,off+j,none⟩=some c:=fun _ =>
 ⟨w.heap.size,0,rfl,fun j c hj=>by
  rw [Nat.zero_add,cell_of_row (w.alloc (.cells cs t)) w.heap.size j cs t (0,0) (heap_alloc_new w _),← Array.getElem?_toList,he]
  simpa using hj⟩
theorem run_append_elems {P:Program} {w:World} {α:Type} {R:Rd α} (hR:Keeps R) (hL:Leaf R) {size:Nat} (hsz0:0 < size) (base:Nat) (t ty e:TypeId) (z:Value) (bytes:Nat) (ht:P.underlying t=some (.slice e))
  (hinfo:(P.info? e).map (fun i=>(i.zero,i.size,i.bytes))=some (some z,size,bytes)) (hzs:z.cells.size=size)
  {S:Nat→Prop} {A:Option Addr} {n c:Nat} {xs:List α} (hown:OwnElems R size w base e S A n c xs) {S3:Nat→Prop} {A2:Option Addr} {m c2:Nat} {ys:List α} {dss:List (List Value)} (heach2:Each R size w S3 dss ys) (hcells:0 < m→∃ b off,A2=some ⟨b,off,none⟩∧∀ j c,dss.flatten[j]?=some c→w.cell? ⟨b,off+j,none⟩=some c) (hm:ys.length=m)
  (h13:∀ b,S b→S3 b) (h3:∀ b,S3 b→b < w.heap.size∧some b≠(Value.slice A n c).ownBlock)
  (h63:n+m≤maxLen) (hbytes:(n+m) * bytes≤140737488355328) (hbase:base≤w.heap.size) :
  ∃ A' c' w',(Builtin.append_ #[t,t] ty #[.slice A n c,.slice A2 m c2]).run P w = .ok (.slice A' (n+m) c') w'∧OwnElems R size w' base e S3 A' (n+m) c' (xs++ys) ∧
   w.grownBy w' (Value.slice A n c).ownBlock∧((Value.slice A' (n+m) c').ownBlock=(Value.slice A n c).ownBlock∨(Value.slice A' (n+m) c').ownBlock=some w.heap.size):=by
 obtain ⟨i,hi,hz,hsz,hby⟩:=info_parts hinfo
 obtain ⟨css,hrow,heach,hlen⟩:=hown
 have hall:Each R size w S3 (css++dss) (xs++ys):=(heach.keep hR (alike_refl _ _) h13).append heach2
 have hkeep:∀ w',w.grownBy w' (Value.slice A n c).ownBlock→Each R size w' S3 (css++dss) (xs++ys):=fun w' hg =>
  hall.keep hR (fun b o hb=>World.cell?_of_block (hg.block b (h3 b hb).1 (h3 b hb).2)) (fun _ h=>h)
 have hxl:(xs++ys).length=n+m:=by rw [List.length_append,hlen,hm]
 by_cases h0:m=0
 ·subst h0
  have hys0:ys=[]:=List.eq_nil_of_length_eq_zero hm
  subst hys0
  have hd0:dss=[]:=List.eq_nil_of_length_eq_zero (by have:=heach2.len.1;simpa using this)
  subst hd0
  rw [List.append_nil] at hkeep
  rcases A2 with _ | ad
  ·refine ⟨A,c,w,run_append_no_address base t ty e i size ht hi _ n _ hrow c2,⟨css,by simpa using hrow,?_,hxl⟩,World.grownBy.refl w _,.inl rfl⟩
   exact hkeep w (World.grownBy.refl w _)
  ·obtain ⟨v',w',hrun,h2,h3',_,h5⟩:=run_append_own_at (P:=P) w base t ty e i z size bytes ht hi hz hsz hby hzs hsz0 _ n _ hrow ad 0 c2 [] (by simp) (by simp) (by simp) h63 hbytes hbase
   have hf:=h2
   rcases h2.2 with ⟨rfl,hn0⟩ | ⟨g,cap,cur,rfl,_⟩
   ·refine ⟨none,0,w',by rw [hrun,hn0],⟨css,?_,hkeep w' h3',hxl⟩,h3',?_⟩
    ·rw [hn0] at hf ⊢;simpa using hf
    ·rw [hn0];exact h5
   ·exact ⟨some ⟨g,0,none⟩,cap,w',hrun,⟨css,by simpa using hf,hkeep w' h3',hxl⟩,h3',h5⟩
 ·obtain ⟨b,off,rfl,hc⟩:=hcells (by omega)
  obtain ⟨v',w',hrun,h2,h3',_,h5⟩:=run_append_own_at (P:=P) w base t ty e i z size bytes ht hi hz hsz hby hzs hsz0 _ n _ hrow ⟨b,off,none⟩ m c2 dss.flatten (by rw [heach2.len.2,hm])
   (by
    intro j u hj
    rw [← hc j u hj]
    by_cases hj0:j=0<;>simp [Addr.add,hj0])
   (heach2.leaf hL) h63 hbytes hbase
  obtain ⟨g,cap,rfl,_,_⟩:=World.ownsRow.form h2 (by omega)
  exact ⟨_,_,w',hrun,⟨css++dss,by rw [List.flatten_append];exact h2,hkeep w' h3',hxl⟩,h3',h5⟩
theorem wpList_append_elems {P:Program} {w:World} {ops:Array Oper} {rest:List Oper} {o:Oper} {a:Act} {Q:Exit→Act→World→Prop} (hgd:o.guard=none) (s x:Operand) (t:TypeId)
  (ho:o.op = .call { callee:=.builtin .append,args:=#[s,x],argTypes:=#[t,t] })
  {α:Type} {R:Rd α} (hR:Keeps R) (hL:Leaf R) {size:Nat} (hsz0:0 < size) (base:Nat) (e:TypeId) (z:Value) (bytes:Nat) (ht:P.underlying t=some (.slice e))
  (hinfo:(P.info? e).map (fun i=>(i.zero,i.size,i.bytes))=some (some z,size,bytes)) (hzs:z.cells.size=size)
  {S:Nat→Prop} {A:Option Addr} {n c:Nat} {xs:List α} (hs:a.eval s = .slice A n c) (hown:OwnElems R size w base e S A n c xs)
  {S3:Nat→Prop} {A2:Option Addr} {m c2:Nat} {ys:List α} {dss:List (List Value)} (hx:a.eval x = .slice A2 m c2) (heach2:Each R size w S3 dss ys) (hcells:0 < m→∃ b off,A2=some ⟨b,off,none⟩∧∀ j c,dss.flatten[j]?=some c→w.cell? ⟨b,off+j,none⟩=some c) (hm:ys.length=m)
  (h13:∀ b,S b→S3 b) (h3:∀ b,S3 b→b < w.heap.size∧some b≠(Value.slice A n c).ownBlock)
  (h63:n+m≤maxLen) (hbytes:(n+m) * bytes≤140737488355328) (hbase:base≤w.heap.size)
  (h:∀ A' c' w',OwnElems R size w' base e S3 A' (n+m) c' (xs++ys)→w.grownBy w' (Value.slice A n c).ownBlock →
   ((Value.slice A' (n+m) c').ownBlock=(Value.slice A n c).ownBlock∨(Value.slice A' (n+m) c').ownBlock=some w.heap.size)→wpList P ops Q rest (a.put o.dst (.slice A' (n+m) c')) w') :
  wpList P ops Q (o :: rest) a w:=by
 refine wpList_plain hgd fun K hK=>?_
 obtain ⟨A',c',w',hr',h2,h3',h4⟩:=run_append_elems (P:=P) (w:=w) hR hL hsz0 base t o.type e z bytes ht hinfo hzs hown heach2 hcells hm h13 h3 (c2:=c2) h63 hbytes hbase
 unfold Oper.wp execOp
 simp only [ho,resolve,invoke,builtin,Sem.run_bind,Sem.run_pure,Result.andThen_ok,List.map_toArray,List.map_cons,List.map_nil,hs,hx,hr']
 exact hK _ _ (h A' c' w' h2 h3' h4)
end Go.Proofs.YtalhdalinpdanaaGreatDoor
end
section
namespace Go.Proofs.YtalhdalinpdanaaGreatDoor
set_option maxRecDepth 20000
open Go.RowKit
end Go.Proofs.YtalhdalinpdanaaGreatDoor
end
section
namespace Go.Proofs.YtalhdalinpdanaaGreatDoor
set_option maxRecDepth 20000
open Go.RowKit
end Go.Proofs.YtalhdalinpdanaaGreatDoor
end
section
namespace Go.Proofs.YtalhdalinpdanaaGreatDoor
set_option maxRecDepth 20000
open Go.RowKit
def Out (S:Nat→Prop) (w w' : World):Nat→Prop:=fun b=>S b∨(w.heap.size≤b∧b < w'.heap.size)
theorem Out.lt {S:Nat→Prop} {w w' : World} (hS:∀ b,S b→b < w.heap.size) (hs:w.heap.size≤w'.heap.size):∀ b,Out S w w' b→b < w'.heap.size:=fun b h=>by
 rcases h with h | h
 ·have:=hS b h;omega
 ·exact h.2
theorem Out.mk {S:Nat→Prop} {w w' : World} : ∀ b,S b→Out S w w' b:=fun _ h=>.inl h
theorem below_alikeS {S:Nat→Prop} {B:Nat} {w w' : World} (h:Below B w w') (hS:∀ b,S b→b < B):Alike S w w':=fun b o hb=>h.cell (p:=⟨b,o,none⟩) (hS b hb)
theorem BysIn.below {S:Nat→Prop} {B:Nat} {w w' : World} {A:Option Addr} {bs:List Nat} (h:BysIn w S A bs) (hS:∀ b,S b→b < B) (hb:Below B w w'):BysIn w' S A bs:=IntsIn.keep h (below_alikeS hb hS) (fun _ h=>h)
theorem FilesIn.below {S:Nat→Prop} {B:Nat} {w w' : World} {A:Option Addr} {fs:List FileD} (h:FilesIn w S A fs) (hS:∀ b,S b→b < B) (hb:Below B w w'):FilesIn w' S A fs:=Elems.keep keeps_file h (below_alikeS hb hS) (fun _ h=>h)
theorem FilesIn.more {S S' : Nat→Prop} {w:World} {A:Option Addr} {fs:List FileD} (h:FilesIn w S A fs) (hS:∀ b,S b→S' b):FilesIn w S' A fs:=Elems.keep keeps_file h (alike_refl _ _) hS
theorem FilesIn.files {S:Nat→Prop} {B:Nat} {w w' : World} {A:Option Addr} {fs:List FileD} (h:FilesIn w S A fs) (hS:∀ b,S b→b < B) (hb:Below B w w'):Files w' B A fs:=(h.below hS hb).more hS
theorem FilesIn.at_ {w:World} {S:Nat→Prop} {A:Option Addr} {fs:List FileD} (h:FilesIn w S A fs) {j:Nat} (hj:j < fs.length) :
  ∃ b off f A' n c,A=some ⟨b,off,none⟩∧S b∧Hid (fs[j]?=some f)∧w.cell? ⟨b,off+j * 3,none⟩=some (.string f.name)∧w.cell? ⟨b,off+j * 3+1,none⟩=some (.slice A' n c)∧w.cell? ⟨b,off+j * 3+2,none⟩=some (.int .i64 f.sure) ∧
   f.name.size≤maxLen∧BysIn w S A' f.data∧Hid (f.data.length=n)∧n≤c∧c≤maxLen∧inI f.sure:=by
 obtain ⟨b,off,e,hb,hc⟩:=h (by omega)
 obtain ⟨cs,hl,hcs,A',n,c,rfl,h1,h2,h3,h4,h5,h6⟩:=hc j fs[j] (List.getElem?_eq_getElem hj)
 exact ⟨b,off,fs[j],A',n,c,e,hb,Lib.hid (List.getElem?_eq_getElem hj),hcs 0 _ rfl,hcs 1 _ rfl,hcs 2 _ rfl,h1,h2,Lib.hid h3,h4,h5,inI_of_wf h6⟩
theorem heap_set4 {w:World} {g b:Nat} (v0 v1 v2 v3:Value) (h:b≠g):((((w.setCell ⟨g,0,none⟩ v0).setCell ⟨g,1,none⟩ v1).setCell ⟨g,2,none⟩ v2).setCell ⟨g,3,none⟩ v3).heap[b]?=w.heap[b]?:=by
 rw [Below.heap_setCell _ _ _ _ h,Below.heap_setCell _ _ _ _ h,Below.heap_setCell _ _ _ _ h,Below.heap_setCell _ _ _ _ h]
theorem heap_set4_self {w:World} {g:Nat} {a0 a1 a2 a3:Value} {T:TypeId} (v0 v1 v2 v3:Value) (h:w.heap[g]?=some (.cells #[a0,a1,a2,a3] T (0,0))) :
  ((((w.setCell ⟨g,0,none⟩ v0).setCell ⟨g,1,none⟩ v1).setCell ⟨g,2,none⟩ v2).setCell ⟨g,3,none⟩ v3).heap[g]?=some (.cells #[v0,v1,v2,v3] T (0,0)):=by
 have h0:=heap_setCell_same w g 0 _ T v0 h
 have h1:=heap_setCell_same _ g 1 _ T v1 h0
 have h2:=heap_setCell_same _ g 2 _ T v2 h1
 exact heap_setCell_same _ g 3 _ T v3 h2
theorem below_set4 {B:Nat} {w0 w:World} {g:Nat} (hb:Below B w0 w) (h:B≤g) (v0 v1 v2 v3:Value):Below B w0 ((((w.setCell ⟨g,0,none⟩ v0).setCell ⟨g,1,none⟩ v1).setCell ⟨g,2,none⟩ v2).setCell ⟨g,3,none⟩ v3) :=
 (((hb.setCell (p:=⟨g,0,none⟩) h _).setCell (p:=⟨g,1,none⟩) h _).setCell (p:=⟨g,2,none⟩) h _).setCell (p:=⟨g,3,none⟩) h _
theorem size_set4 (w:World) (g:Nat) (v0 v1 v2 v3:Value):((((w.setCell ⟨g,0,none⟩ v0).setCell ⟨g,1,none⟩ v1).setCell ⟨g,2,none⟩ v2).setCell ⟨g,3,none⟩ v3).heap.size=w.heap.size:=by simp [World.setCell]
theorem alike_set4 {S:Nat→Prop} {w:World} {g:Nat} (h:¬ S g) (v0 v1 v2 v3:Value):Alike S w ((((w.setCell ⟨g,0,none⟩ v0).setCell ⟨g,1,none⟩ v1).setCell ⟨g,2,none⟩ v2).setCell ⟨g,3,none⟩ v3):=fun b o hb =>
 World.cell?_of_block (heap_set4 v0 v1 v2 v3 (fun e=>h (e▸hb)))
end Go.Proofs.YtalhdalinpdanaaGreatDoor
end
section
namespace Go.Proofs.YtalhdalinpdanaaGreatDoor.disk
set_option maxRecDepth 20000
open Go.RowKit
end Go.Proofs.YtalhdalinpdanaaGreatDoor.disk
end
section
namespace Go.Proofs.YtalhdalinpdanaaGreatDoor
set_option maxRecDepth 20000
open Go.RowKit
def Off (own:List Nat) (w:World):Nat→Prop:=fun b=>b < w.heap.size∧b ∉ own
theorem Off.lt {own:List Nat} {w:World} : ∀ b,Off own w b→b < w.heap.size:=fun _ h=>h.1
theorem Off.ret {own:List Nat} {w w' : World} (ho:∀ g ∈ own,g < w.heap.size) (hs:w.heap.size≤w'.heap.size):∀ b,Out (Off own w) w w' b→Off own w' b:=fun b h=>by
 rcases h with h | h
 ·exact ⟨Nat.lt_of_lt_of_le h.1 hs,h.2⟩
 ·exact ⟨h.2,fun hm=>by have:=ho b hm;omega⟩
theorem Off.grow {own:List Nat} {w w' : World} (hs:w.heap.size≤w'.heap.size):∀ b,Off own w b→Off own w' b:=fun b h=>⟨Nat.lt_of_lt_of_le h.1 hs,h.2⟩
theorem Off.cons {own:List Nat} {w w' : World} (hs:w.heap.size≤w'.heap.size) {g:Nat} (hg:w.heap.size≤g):∀ b,Off own w b→Off (g :: own) w' b:=fun b h =>
 ⟨Nat.lt_of_lt_of_le h.1 hs,fun hm=>by
  rcases List.mem_cons.1 hm with e | hm
  ·have:=h.1;omega
  ·exact h.2 hm⟩
section
variable {own:List Nat} {w w' : World} {A:Option Addr} {fs:List FileD} {bs:List Nat}
theorem FilesIn.off (h:FilesIn w (Lt w.heap.size) A fs):FilesIn w (Off [] w) A fs:=h.more (fun b h=>⟨h,by simp⟩)
theorem FilesIn.ret (h:FilesIn w' (Out (Off own w) w w') A fs) (ho:∀ g ∈ own,g < w.heap.size) (hs:w.heap.size≤w'.heap.size):FilesIn w' (Off own w') A fs:=h.more (Off.ret ho hs)
theorem FilesIn.grow (h:FilesIn w (Off own w) A fs) (hb:Below w.heap.size w w'):FilesIn w' (Off own w') A fs:=(h.below Off.lt hb).more (Off.grow hb.size)
theorem FilesIn.alloc (h:FilesIn w (Off own w) A fs) (o:Obj):FilesIn (w.alloc o) (Off own (w.alloc o)) A fs:=h.grow ((Below.refl _ _).alloc (Nat.le_refl _) o)
theorem FilesIn.drew (h:FilesIn w (Off own w) A fs):FilesIn w.drew (Off own w.drew) A fs:=h
theorem FilesIn.drewN (h:FilesIn w (Off own w) A fs) (m:Nat):FilesIn (w.drewN m) (Off own (w.drewN m)) A fs:=Elems.keep keeps_file h (fun _ _ _=>rfl) (fun _ h=>h)
theorem BysIn.off (h:BysIn w (Lt w.heap.size) A bs):BysIn w (Off [] w) A bs:=IntsIn.keep h (alike_refl _ _) (fun b h=>⟨h,by simp⟩)
theorem BysIn.ret (h:BysIn w' (Out (Off own w) w w') A bs) (ho:∀ g ∈ own,g < w.heap.size) (hs:w.heap.size≤w'.heap.size):BysIn w' (Off own w') A bs:=IntsIn.keep h (alike_refl _ _) (Off.ret ho hs)
theorem BysIn.grow (h:BysIn w (Off own w) A bs) (hb:Below w.heap.size w w'):BysIn w' (Off own w') A bs:=IntsIn.keep h (below_alikeS hb Off.lt) (Off.grow hb.size)
end
end Go.Proofs.YtalhdalinpdanaaGreatDoor
end
section
namespace Go.Proofs.YtalhdalinpdanaaGreatDoor
set_option maxRecDepth 20000
open Go.RowKit
section
variable {w w' : World} {base n c:Nat} {e:TypeId} {k:IntKind} {A:Option Addr} {xs:List Int}
theorem OwnInts.cap (h:OwnInts w base e k A n c xs):n≤c∧c≤maxLen:=by
 rcases h.1.2 with ⟨hv,h0⟩ | ⟨g,cap,cur,hv,_,_,h2,h3,_⟩
 ·simp only [Value.slice.injEq] at hv
  obtain ⟨_,rfl,rfl⟩:=hv
  exact ⟨Nat.le_refl _,by unfold maxLen;omega⟩
 ·simp only [Value.slice.injEq,true_and] at hv
  obtain ⟨_,rfl⟩:=hv
  exact ⟨h2,h3⟩
theorem OwnInts.owned (h:OwnInts w base e k A n c xs):IntsIn k w (fun b=>(Value.slice A n c).ownBlock=some b) A xs :=
 ⟨h.2,fun hn=>by
  obtain ⟨b,off,e1,hlt,hc⟩:=h.ints.2 hn
  subst e1
  exact ⟨b,off,rfl,rfl,hc⟩⟩
theorem OwnInts.same (h:OwnInts w base e k A n c xs) (hb:∀ b,(Value.slice A n c).ownBlock=some b→w'.heap[b]?=w.heap[b]?):OwnInts w' base e k A n c xs:=by
 refine ⟨⟨h.1.1,?_⟩,h.2⟩
 rcases h.1.2 with h1 | ⟨g,cap,cur,hv,h1,h2,h3⟩
 ·exact .inl h1
 ·refine .inr ⟨g,cap,cur,hv,h1,?_,h3⟩
  rw [hb g (by rw [hv];rfl)];exact h2
theorem OwnInts.lower {base' : Nat} (h:OwnInts w base e k A n c xs) (hb:base'≤base):OwnInts w base' e k A n c xs:=by
 refine ⟨⟨h.1.1,?_⟩,h.2⟩
 rcases h.1.2 with h1 | ⟨g,cap,cur,hv,h1,h2⟩
 ·exact .inl h1
 ·exact .inr ⟨g,cap,cur,hv,Nat.le_trans hb h1,h2⟩
end
def FileCells (cur:Array Value) (j:Nat) (f:FileD) (v:Value):Prop:=cur[j * 3]?=some (.string f.name)∧cur[j * 3+1]?=some v∧cur[j * 3+2]?=some (.int .i64 f.sure)∧f.name.size≤maxLen∧(Lit.int .i64 f.sure).wf=true
def rdData (w:World) (S:Nat→Prop) (v:Value) (bs:List Nat):Prop := ∃ A n c,v = .slice A n c∧BysIn w S A bs∧bs.length=n∧n≤c∧c≤maxLen
def RowAt (w:World) (S:Nat→Prop) (cur:Array Value) (fs:List FileD):Prop := ∀ (j:Nat) f,fs[j]?=some f→∃ v,FileCells cur j f v∧rdData w S v f.data
def OwnF (w:World) (base:Nat) (T:TypeId) (S:Nat→Prop) (A:Option Addr) (n c:Nat) (fs:List FileD):Prop :=
 fs.length=n∧n≤c∧c≤maxLen∧((A=none∧n=0∧c=0)∨∃ g cur,A=some ⟨g,0,none⟩∧base≤g∧w.heap[g]?=some (.cells cur T (0,0))∧cur.size=c * 3∧¬ S g∧RowAt w S cur fs)
theorem addr_eq {g g' : Nat} (h:(some (⟨g,0,none⟩:Addr))=some ⟨g',0,none⟩):g'=g:=by
 injection h with h
 injection h with h
 exact h.symm
section
variable {w w' : World} {base n c:Nat} {T:TypeId} {A:Option Addr} {fs:List FileD} {S S' : Nat→Prop} {cur:Array Value}
theorem rdData.keep {v:Value} {bs:List Nat} (h:rdData w S v bs) (hc:Alike S w w') (hS:∀ b,S b→S' b):rdData w' S' v bs:=by
 obtain ⟨A,n,c,h1,h2,h3⟩:=h
 exact ⟨A,n,c,h1,IntsIn.keep h2 hc hS,h3⟩
theorem RowAt.keep (h:RowAt w S cur fs) (hc:Alike S w w') (hS:∀ b,S b→S' b):RowAt w' S' cur fs:=fun j f hj=>by
 obtain ⟨v,h1,h2⟩:=h j f hj
 exact ⟨v,h1,h2.keep hc hS⟩
theorem OwnF.len (h:OwnF w base T S A n c fs):fs.length=n:=h.1
theorem OwnF.cap (h:OwnF w base T S A n c fs):n≤c∧c≤maxLen:=⟨h.2.1,h.2.2.1⟩
theorem OwnF.keep (h:OwnF w base T S A n c fs) (hg:∀ g,A=some ⟨g,0,none⟩→w'.heap[g]?=w.heap[g]?) (hS:Alike S w w'):OwnF w' base T S A n c fs:=by
 refine ⟨h.1,h.2.1,h.2.2.1,?_⟩
 rcases h.2.2.2 with h1 | ⟨g,cur,h1,h2,h3,h4,h5,h6⟩
 ·exact .inl h1
 ·exact .inr ⟨g,cur,h1,h2,(hg g h1).trans h3,h4,h5,h6.keep hS (fun _ h=>h)⟩
theorem OwnF.files (h:OwnF w base T S A n c fs) (hS:∀ b,S b→S' b) (hg:∀ g,A=some ⟨g,0,none⟩→S' g):FilesIn w S' A fs:=fun h0=>by
 rcases h.2.2.2 with ⟨_,h1,_⟩ | ⟨g,cur,h1,h2,h3,h4,h5,h6⟩
 ·have:=h.1;omega
 ·refine ⟨g,0,h1,hg g h1,fun j f hj=>?_⟩
  obtain ⟨v,⟨c0,c1,c2,c3,c4⟩,A',n',c',rfl,d1,d2,d3,d4⟩:=h6 j f hj
  refine ⟨[.string f.name,.slice A' n' c',.int .i64 f.sure],rfl,fun i u hi=>?_,A',n',c',rfl,c3,IntsIn.keep d1 (alike_refl _ _) hS,d2,d3,d4,c4⟩
  rw [Nat.zero_add,cell_of_row w g _ cur T (0,0) h3]
  match i,hi with
  | 0,hi=>simp at hi;subst hi;exact c0
  | 1,hi=>simp at hi;subst hi;exact c1
  | 2,hi=>simp at hi;subst hi;exact c2
theorem OwnF.of_elems (h:OwnElems rdFile 3 w base T S A n c fs) (hS:∀ g,A=some ⟨g,0,none⟩→¬ S g):OwnF w base T S A n c fs:=by
 have hcap:=h.cap
 obtain ⟨css,h1,h2,h3⟩:=h
 refine ⟨h3,hcap.1,hcap.2,?_⟩
 rcases h1.2 with ⟨hv,h0⟩ | ⟨g,cap,cur,hv,k1,k2,k3,k4,k5,k6⟩
 ·simp only [Value.slice.injEq] at hv
  exact .inl hv
 ·simp only [Value.slice.injEq,true_and] at hv
  obtain ⟨rfl,rfl⟩:=hv
  refine .inr ⟨g,cur,rfl,k1,k2,k5,hS g rfl,fun j f hj=>?_⟩
  obtain ⟨cs,hl,hc,A',n',c',rfl,q1,q2,q3,q4,q5,q6⟩:=h2.at_ hj
  have hjn:j < n:=by have:=(List.getElem?_eq_some_iff.1 hj).1;omega
  have key:∀ i u,([Value.string f.name,.slice A' n' c',.int .i64 f.sure]:List Value)[i]?=some u→cur[j * 3+i]?=some u:=fun i u hi=>by
   have h4:=hc i u hi
   have hi3:i < 3:=by have:=(List.getElem?_eq_some_iff.1 hi).1;simpa using this
   rw [← k6,List.getElem?_take,if_pos (by omega)] at h4
   rw [← Array.getElem?_toList];exact h4
  exact ⟨_,⟨key 0 _ rfl,key 1 _ rfl,key 2 _ rfl,q1,q6⟩,A',n',c',rfl,q2,q3,q4,q5⟩
end
theorem OwnF.of_empty {w:World} {base base' c:Nat} {T:TypeId} {S:Nat→Prop} {A:Option Addr} (h:OwnElems rdFile 3 w base T S A 0 c ([]:List FileD)) (hb:base'≤base):OwnF w base' T (fun _=>False) A 0 c []:=by
 have hcap:=h.cap
 obtain ⟨css,h1,h2,h3⟩:=h
 refine ⟨rfl,hcap.1,hcap.2,?_⟩
 rcases h1.2 with ⟨hv,h0⟩ | ⟨g,cap,cur,hv,k1,k2,k3,k4,k5,k6⟩
 ·simp only [Value.slice.injEq] at hv
  exact .inl ⟨hv.1,rfl,hv.2.2⟩
 ·simp only [Value.slice.injEq,true_and] at hv
  obtain ⟨rfl,rfl⟩:=hv
  exact .inr ⟨g,cur,rfl,Nat.le_trans hb k1,k2,k5,fun h=>h,fun j f hj=>by simp at hj⟩
theorem OwnF.lower {w:World} {base base' n c:Nat} {T:TypeId} {S:Nat→Prop} {A:Option Addr} {fs:List FileD} (h:OwnF w base T S A n c fs) (hb:base'≤base):OwnF w base' T S A n c fs:=by
 refine ⟨h.1,h.2.1,h.2.2.1,?_⟩
 rcases h.2.2.2 with h1 | ⟨g,cur,h1,h2,h3⟩
 ·exact .inl h1
 ·exact .inr ⟨g,cur,h1,Nat.le_trans hb h2,h3⟩
theorem RowAt.at_ {w:World} {S:Nat→Prop} {cur:Array Value} {fs:List FileD} (h:RowAt w S cur fs) {j:Nat} {f:FileD} (hj:fs[j]?=some f) :
  ∃ A n c,cur[j * 3]?=some (.string f.name)∧cur[j * 3+1]?=some (.slice A n c)∧cur[j * 3+2]?=some (.int .i64 f.sure)∧f.name.size≤maxLen∧inI f.sure∧BysIn w S A f.data∧Hid (f.data.length=n)∧n≤c∧c≤maxLen:=by
 obtain ⟨v,⟨c0,c1,c2,c3,c4⟩,A,n,c,rfl,d1,d2,d3,d4⟩:=h j f hj
 exact ⟨A,n,c,c0,c1,c2,c3,inI_of_wf c4,d1,Lib.hid d2,d3,d4⟩
def CopyInv (base:Nat) (T8:TypeId) (S:Nat→Prop) (cc:Nat) (fs:List FileD) (k:Nat) (w:World) (cur:Array Value):Prop :=
 cur.size=cc * 3 ∧
 (∀ (j:Nat) f,fs[j]?=some f→∃ v,FileCells cur j f v∧(k≤j→rdData w S v f.data)∧(j < k→∃ A n c,v = .slice A n c∧OwnBys w base T8 A n c f.data)) ∧
 (∀ i j vi vj b,i < j→j < k→cur[i * 3+1]?=some vi→cur[j * 3+1]?=some vj→vi.ownBlock=some b→vj.ownBlock≠some b)
theorem set_cell {cur:Array Value} {p i:Nat} (u:Value) (h:p≠i):(cur.setIfInBounds p u)[i]?=cur[i]?:=by
 rw [Array.getElem?_setIfInBounds];simp [h]
theorem set_cell_self {cur:Array Value} {p:Nat} (u:Value) (h:p < cur.size):(cur.setIfInBounds p u)[p]?=some u:=by
 rw [Array.getElem?_setIfInBounds];simp [h]
theorem CopyInv.step {base:Nat} {T8:TypeId} {S:Nat→Prop} {cc:Nat} {fs:List FileD} {k:Nat} {w w2 w3:World} {cur:Array Value} (h:CopyInv base T8 S cc fs k w cur) {f:FileD} (hk:fs[k]?=some f) (hkc:k < cc)
  {A2:Option Addr} {n2 c2:Nat} (ho:OwnBys w2 w.heap.size T8 A2 n2 c2 f.data) (hb:base≤w.heap.size) (hS:∀ b,S b→b < w.heap.size) {g:Nat} (hg:g < base) (hSg:¬ S g)
  (h2:∀ b,b < w.heap.size→w2.heap[b]?=w.heap[b]?) (h3:∀ b,b≠g→w3.heap[b]?=w2.heap[b]?) :
  CopyInv base T8 S cc fs (k+1) w3 (cur.setIfInBounds (k * 3+1) (.slice A2 n2 c2)):=by
 obtain ⟨i1,i2,i3⟩:=h
 have hk3:k * 3+1 < cur.size:=by rw [i1];omega
 have hold:∀ (j:Nat) f A n c,OwnBys w base T8 A n c f→OwnBys w3 base T8 A n c f:=fun j f A n c hh=>OwnInts.same hh fun b hb'=>by
  have:=OwnBys.block hh b hb'
  rw [h3 b (by omega),h2 b this.2]
 refine ⟨by simpa using i1,fun j f' hj=>?_,fun i j vi vj b hij hjk hvi hvj hvb=>?_⟩
 ·obtain ⟨v,⟨c0,c1,c2',c3⟩,d1,d2⟩:=i2 j f' hj
  by_cases e:j=k
  ·subst e
   obtain rfl:f=f':=by rw [hk] at hj;injection hj
   refine ⟨.slice A2 n2 c2,⟨by rw [set_cell _ (by omega)];exact c0,set_cell_self _ hk3,by rw [set_cell _ (by omega)];exact c2',c3⟩,fun h=>by omega,fun _=>⟨A2,n2,c2,rfl,?_⟩⟩
   refine OwnInts.lower (OwnInts.same ho fun b hb'=>?_) hb
   have:=OwnBys.block ho b hb'
   exact h3 b (by omega)
  ·refine ⟨v,⟨by rw [set_cell _ (by omega)];exact c0,by rw [set_cell _ (by omega)];exact c1,by rw [set_cell _ (by omega)];exact c2',c3⟩,fun h=>?_,fun h=>?_⟩
   ·exact (d1 (by omega)).keep (fun b o hSb=>World.cell?_of_block (by rw [h3 b (fun e2=>hSg (e2▸hSb)),h2 b (hS b hSb)])) (fun _ h=>h)
   ·obtain ⟨A,n,c,rfl,hh⟩:=d2 (by omega)
    exact ⟨A,n,c,rfl,hold j f'.data A n c hh⟩
 ·rw [set_cell _ (by omega)] at hvi
  by_cases e:j=k
  ·subst e
   rw [set_cell_self _ hk3] at hvj
   injection hvj with hvj
   subst hvj
   intro e2
   have h4:=OwnBys.block ho b e2
   have hi:i < fs.length:=by have:=(List.getElem?_eq_some_iff.1 hk).1;omega
   obtain ⟨v,⟨_,c1,_⟩,_,d2⟩:=i2 i fs[i] (List.getElem?_eq_getElem hi)
   obtain rfl:v=vi:=by rw [c1] at hvi;injection hvi
   obtain ⟨A,n,c,rfl,hh⟩:=d2 (by omega)
   have:=OwnBys.block hh b hvb
   omega
  ·rw [set_cell _ (by omega)] at hvj
   exact i3 i j vi vj b hij (by omega) hvi hvj hvb
def Apart (w:World) (base:Nat) (T8:TypeId) (S:Nat→Prop) (A:Option Addr) (fs:List FileD):Prop :=
 ∀ g cur T,A=some ⟨g,0,none⟩→w.heap[g]?=some (.cells cur T (0,0))→∀ (i:Nat) f,fs[i]?=some f→∃ Ai ni ci,cur[i * 3+1]?=some (.slice Ai ni ci)∧OwnBys w base T8 Ai ni ci f.data∧(Value.slice Ai ni ci).ownBlock≠some g ∧
  ∀ (j:Nat) f',j≠i→fs[j]?=some f'→∃ v,FileCells cur j f' v∧rdData w (fun b=>S b∧(Value.slice Ai ni ci).ownBlock≠some b) v f'.data
theorem Apart.lower {w:World} {base base' : Nat} {T8:TypeId} {S:Nat→Prop} {A:Option Addr} {fs:List FileD} (h:Apart w base T8 S A fs) (hb:base'≤base):Apart w base' T8 S A fs:=fun g cur T hA hE i f hi=>by
 obtain ⟨Ai,ni,ci,h1,h2,h3⟩:=h g cur T hA hE i f hi
 exact ⟨Ai,ni,ci,h1,OwnInts.lower h2 hb,h3⟩
theorem Apart.keep {w w' : World} {base:Nat} {T8:TypeId} {S:Nat→Prop} {A:Option Addr} {fs:List FileD} (h:Apart w base T8 S A fs) (hg:∀ g,A=some ⟨g,0,none⟩→w'.heap[g]?=w.heap[g]?) (hb:∀ b,base≤b→b < w.heap.size→S b→w'.heap[b]?=w.heap[b]?)
  (hS:∀ b,S b→base≤b∧b < w.heap.size) (hO:∀ b,base≤b→b < w.heap.size→A≠some ⟨b,0,none⟩→w'.heap[b]?=w.heap[b]?):Apart w' base T8 S A fs:=fun g cur T hA hE i f hi=>by
 obtain ⟨Ai,ni,ci,h1,h2,h3,h4⟩:=h g cur T hA ((hg g hA).symm.trans hE) i f hi
 refine ⟨Ai,ni,ci,h1,OwnInts.same h2 fun b hb'=>hO b (OwnBys.block h2 b hb').1 (OwnBys.block h2 b hb').2 (fun e=>h3 (by rw [hb'];rw [hA] at e;injection e with e;injection e with e;rw [e])),h3,fun j f' hij hj=>?_⟩
 obtain ⟨v,k1,k2⟩:=h4 j f' hij hj
 exact ⟨v,k1,k2.keep (fun b o hSb=>World.cell?_of_block (hb b (hS b hSb.1).1 (hS b hSb.1).2 hSb.1)) (fun _ h=>h)⟩
theorem CopyInv.done {base:Nat} {T8 T:TypeId} {S:Nat→Prop} {cc:Nat} {fs:List FileD} {k:Nat} {w:World} {cur:Array Value} (h:CopyInv base T8 S cc fs fs.length w cur) {g:Nat} (hg:g < base)
  (hE:w.heap[g]?=some (.cells cur T (0,0))) (hn:fs.length=k) (hkc:k≤cc) (hcm:cc≤maxLen) {b0:Nat} (hb0:b0≤g) :
  OwnF w b0 T (fun b=>base≤b∧b < w.heap.size) (some ⟨g,0,none⟩) k cc fs∧Apart w base T8 (fun b=>base≤b∧b < w.heap.size) (some ⟨g,0,none⟩) fs:=by
 obtain ⟨i1,i2,i3⟩:=h
 have own:∀ (j:Nat) f,fs[j]?=some f→∃ A n c,FileCells cur j f (.slice A n c)∧OwnBys w base T8 A n c f.data:=fun j f hj=>by
  obtain ⟨v,c0,_,d2⟩:=i2 j f hj
  obtain ⟨A,n,c,rfl,hh⟩:=d2 (List.getElem?_eq_some_iff.1 hj).1
  exact ⟨A,n,c,c0,hh⟩
 refine ⟨⟨hn,hkc,hcm,.inr ⟨g,cur,rfl,hb0,hE,i1,fun h=>by omega,fun j f hj=>?_⟩⟩,?_⟩
 ·obtain ⟨A,n,c,c0,hh⟩:=own j f hj
  exact ⟨_,c0,A,n,c,rfl,IntsIn.keep (OwnInts.owned hh) (alike_refl _ _) (fun b hb=>OwnBys.block hh b hb),OwnBys.len hh,(OwnInts.cap hh).1,(OwnInts.cap hh).2⟩
 ·intro g' cur' T' hA hE' i f hi
  injection hA with hA
  obtain rfl:g=g':=by injection hA
  rw [hE] at hE'
  injection hE' with hE'
  obtain ⟨rfl,rfl⟩:cur=cur'∧T=T':=by injection hE' with e1 e2;exact ⟨e1,e2⟩
  obtain ⟨A,n,c,c0,hh⟩:=own i f hi
  refine ⟨A,n,c,c0.2.1,hh,fun e=>by have:=OwnBys.block hh g e;omega,fun j f' hij hj=>?_⟩
  obtain ⟨A',n',c',c0',hh'⟩:=own j f' hj
  refine ⟨_,c0',A',n',c',rfl,IntsIn.keep (OwnInts.owned hh') (alike_refl _ _) (fun b hb=>⟨OwnBys.block hh' b hb,fun e=>?_⟩),OwnBys.len hh',(OwnInts.cap hh').1,(OwnInts.cap hh').2⟩
  have hil:=(List.getElem?_eq_some_iff.1 hi).1
  have hjl:=(List.getElem?_eq_some_iff.1 hj).1
  rcases Nat.lt_or_gt_of_ne hij with h1 | h1
  ·exact i3 j i _ _ b h1 hil c0'.2.1 c0.2.1 hb e
  ·exact i3 i j _ _ b h1 hjl c0.2.1 c0'.2.1 e hb
theorem OwnF.start {w:World} {base:Nat} {T T8:TypeId} {S:Nat→Prop} {g n c:Nat} {fs:List FileD} (h:OwnF w base T S (some ⟨g,0,none⟩) n c fs) (B:Nat) :
  ∃ cur,w.heap[g]?=some (.cells cur T (0,0))∧base≤g∧¬ S g∧CopyInv B T8 S c fs 0 w cur:=by
 rcases h.2.2.2 with ⟨h1,_⟩ | ⟨g',cur,h1,h2,h3,h4,h5,h6⟩
 ·cases h1
 ·injection h1 with h1
  obtain rfl:g=g':=by injection h1
  exact ⟨cur,h3,h2,h5,h4,fun j f hj=>by
   obtain ⟨v,k1,k2⟩:=h6 j f hj
   exact ⟨v,k1,fun _=>k2,fun h=>absurd h (Nat.not_lt_zero _)⟩,fun i j _ _ _ _ h=>absurd h (Nat.not_lt_zero _)⟩
end Go.Proofs.YtalhdalinpdanaaGreatDoor
end
section
namespace Go.Proofs.YtalhdalinpdanaaGreatDoor
set_option maxRecDepth 20000
open Go.RowKit
theorem run_cut_upto {P:Program} (t e size bytes:Nat) (z:Value) (ht:P.underlying t=some (.slice e)) (hinfo:(P.info? e).map (fun i=>(i.zero,i.size,i.bytes))=some (some z,size,bytes))
  (A:Option Addr) (n c k:Nat) (x:Int) (hx:x=(k:Int)) (hk:k≤c) (w:World):(Instr.slice t (.slice A n c) none (some (.int .i64 x)) none).run P w = .ok (.slice A k c) w:=by
 subst hx
 obtain ⟨i,hi,_,hsz,_⟩:=info_parts hinfo
 have he:P.elem t=e:=by simp [Program.elem,ht]
 rw [run_slice_h (P:=P) (w:=w) t A n c (by rw [he];exact ht) .i64 (k:Int) (by omega) (by omega),he]
 rcases A with _ | ⟨b,off,sp⟩
 ·simp [sizeOf,typeInfo,hi,Result.andThen,sliced]
 ·simp [sizeOf,typeInfo,hi,Result.andThen,sliced,Addr.add]
theorem Elems.cut {α:Type} {R:Rd α} {size:Nat} {w:World} {S:Nat→Prop} {A:Option Addr} {xs:List α} (h:Elems R size w S A xs) (m cap:Nat) (hc:xs.length≤cap):Elems R size w S (cutAt A cap m size) (xs.drop m):=fun h0=>by
 rw [List.length_drop] at h0
 obtain ⟨b,off,rfl,hb,hj⟩:=h (by omega)
 have hne:¬ cap=m:=by omega
 refine ⟨b,off+m * size,by simp [cutAt,hne,Addr.add],hb,fun j x hx=>?_⟩
 rw [List.getElem?_drop] at hx
 obtain ⟨cs,h1,h2,h3⟩:=hj (m+j) x hx
 refine ⟨cs,h1,fun i c hic=>?_,h3⟩
 have:=h2 i c hic
 rw [Nat.add_mul] at this
 rw [← this]
 congr 2
 omega
end Go.Proofs.YtalhdalinpdanaaGreatDoor
end
