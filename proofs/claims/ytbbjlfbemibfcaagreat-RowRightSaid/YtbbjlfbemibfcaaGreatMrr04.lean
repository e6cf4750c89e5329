/-
  Read, ql, Files, zhu, Cut
-/
import Derived.Test.YtbbjlfbemibfcaaGreatMrr03
import Derived.OpenShut
import Derived.ChangeOld
import Derived.ChangeArms
import Derived.Maps.AppendAt
import Derived.Test.YtbbjlfbemibfcaaGreatMrr02
set_option linter.unusedVariables false
set_option linter.unusedSimpArgs false
section
namespace Go.Proofs.YtbbjlfbemibfcaaGreat
set_option maxRecDepth 20000
open Go.RowKit
abbrev Rd (α:Type):=World→(Nat→Prop)→List Value→α→Prop
def Alike (S:Nat→Prop) (w w' : World):Prop := ∀ b o,S b→w'.cell? ⟨b,o,none⟩=w.cell? ⟨b,o,none⟩
def qc2 {α:Type} (R:Rd α):Prop := ∀ (w w' : World) (S S' : Nat→Prop) (cs:List Value) (a:α),R w S cs a→Alike S w w'→(∀ b,S b→S' b)→R w' S' cs a
def Leaf {α:Type} (R:Rd α):Prop := ∀ (w:World) (S:Nat→Prop) (cs:List Value) (a:α),R w S cs a→∀ c ∈ cs,c.oneCell'=true
abbrev Lt (B:Nat):Nat→Prop:=fun b=>b < B
def Qk (P:Program) (t:TypeId) {α:Type} (R:Rd α):Prop :=
 ∀ (H:Type) (enc:TypeId × Value→H) (w:World) (fuel:Nat) (cs:List Value) (x:DataW H × List MemPlace),DataW.trod enc P w 0 (fun _=>true) true fuel t cs=some x→∃ a,R w (Lt w.heap.size) cs a
theorem qgr {B:Nat} {w w' : World} (h:Below B w w'):Alike (Lt B) w w':=fun b o hb=>h.cell (p:=⟨b,o,none⟩) hb
theorem alike_refl (S:Nat→Prop) (w:World):Alike S w w:=fun _ _ _=>rfl
def IntsIn (k:IntKind) (w:World) (S:Nat→Prop) (A:Option Addr) (xs:List Int):Prop :=
 (∀ x ∈ xs,(Lit.int k x).wf=true)∧(0 < xs.length→∃ b off,A=some ⟨b,off,none⟩∧S b∧∀ j,j < xs.length→w.cell? ⟨b,off+j,none⟩=some (.int k (xs.getD j 0)))
abbrev Q5 (w:World) (S:Nat→Prop) (A:Option Addr) (bs:List Nat):Prop:=IntsIn .u8 w S A (ak bs)
theorem qkg {k:IntKind} {w:World} {B:Nat} {A:Option Addr} {xs:List Int} : Ints k w B A xs ↔ IntsIn k w (Lt B) A xs:=Iff.rfl
theorem IntsIn.keep {k:IntKind} {w w' : World} {S S' : Nat→Prop} {A:Option Addr} {xs:List Int} (h:IntsIn k w S A xs) (hc:Alike S w w') (hS:∀ b,S b→S' b):IntsIn k w' S' A xs :=
 ⟨h.1,fun hn=>by
  obtain ⟨b,off,e,hlt,hcell⟩:=h.2 hn
  exact ⟨b,off,e,hS b hlt,fun j hj=>(hc b _ hlt).trans (hcell j hj)⟩⟩
theorem Q5.Ws {w:World} {S:Nat→Prop} {B:Nat} {A:Option Addr} {bs:List Nat} (h:Q5 w S A bs) (hS:∀ b,S b→b < B):Az w B A bs:=qkg.2 (h.keep (alike_refl _ _) hS)
def bf (k:IntKind):Rd Int:=fun _ _ cs n=>cs=[.int k n]∧(Lit.int k n).wf=true
def rdBool:Rd Bool:=fun _ _ cs b=>cs=[.bool b]
def q7n (k:IntKind):Rd (List Int):=fun w S cs xs => ∃ A n cap,cs=[.slice A n cap]∧IntsIn k w S A xs∧xs.length=n∧n≤cap∧cap≤maxLen
def Ol:Rd (List Nat):=fun w S cs bs => ∃ A n cap,cs=[.slice A n cap]∧Q5 w S A bs∧bs.length=n∧n≤cap∧cap≤maxLen
def ql {α:Type} (R:Rd α) (size:Nat) (w:World) (S:Nat→Prop) (A:Option Addr) (xs:List α):Prop :=
 0 < xs.length→∃ b off,A=some ⟨b,off,none⟩∧S b∧∀ j x,xs[j]?=some x→∃ cs,cs.length=size∧(∀ i c,cs[i]?=some c→w.cell? ⟨b,off+j * size+i,none⟩=some c)∧R w S cs x
def q4z {α:Type} (R:Rd α) (size:Nat):Rd (List α):=fun w S cs xs => ∃ A n cap,cs=[.slice A n cap]∧ql R size w S A xs∧xs.length=n∧n≤cap∧cap≤maxLen
theorem pz (k:IntKind):qc2 (bf k):=fun _ _ _ _ _ _ h _ _=>h
theorem ql.keep {α:Type} {R:Rd α} {size:Nat} {w w' : World} {S S' : Nat→Prop} {A:Option Addr} {xs:List α} (hR:qc2 R) (h:ql R size w S A xs) (hc:Alike S w w') (hS:∀ b,S b→S' b):ql R size w' S' A xs:=fun hn=>by
 obtain ⟨b,off,e,hlt,hcell⟩:=h hn
 refine ⟨b,off,e,hS b hlt,fun j x hx=>?_⟩
 obtain ⟨cs,hl,hcs,hr⟩:=hcell j x hx
 exact ⟨cs,hl,fun i c hi=>(hc b _ hlt).trans (hcs i c hi),hR _ _ _ _ _ _ hr hc hS⟩
theorem Fh (k:IntKind):Leaf (bf k):=fun _ _ _ _ h c hc=>by rw [h.1] at hc;simp at hc;subst hc;rfl
section
variable {P:Program} {t:TypeId}
theorem of_int {k:IntKind} (ht:P.underlying t=some (.int k)):Qk P t (bf k):=fun H enc w fuel cs x h=>by
 obtain ⟨n,e,_,hw⟩:=DataW.trod_int ht h
 exact ⟨n,e,hw⟩
theorem of_bool (ht:P.underlying t=some .bool):Qk P t rdBool:=fun H enc w fuel cs x h=>by
 obtain ⟨b,e,_⟩:=DataW.trod_bool ht h
 exact ⟨b,e⟩
theorem q40 {e:TypeId} {k:IntKind} (ht:P.underlying t=some (.slice e)) (he:P.underlying e=some (.int k)) (hc:P.cellsOf e=1):Qk P t (q7n k):=fun H enc w fuel cs x h=>by
 rcases ChangeShapes.open_ints ht he hc h with ⟨rfl,_⟩ | ⟨a,len,cap,zs,rfl,_,hl,hm,hz,_,hcell,hw⟩
 ·exact ⟨[],none,0,0,rfl,qkg.1 (Ints.nil _ _ _ _),rfl,Nat.le_refl _,by unfold maxLen;omega⟩
 ·have:=quh (w:=w) (.inr ⟨a,rfl,hl,hm,by simpa using hz,hcell,hw⟩)
  exact ⟨zs.take len,_,_,_,rfl,qkg.1 this.1,this.2.1,hl,hm⟩
theorem q1f {e:TypeId} (ht:P.underlying t=some (.slice e)) (he:P.underlying e=some (.int .u8)) (hc:P.cellsOf e=1):Qk P t Ol:=fun H enc w fuel cs x h=>by
 obtain ⟨xs,A,n,cap,e1,h1,h2,h3⟩:=q40 ht he hc H enc w fuel cs x h
 obtain ⟨bs,rfl,hb⟩:=(qkg.2 h1).Ws
 exact ⟨bs,A,n,cap,e1,qkg.1 hb,by rw [← h2,iy],h3⟩
theorem gather {α:Type} (n:Nat) (p:Nat→α→Prop) (h:∀ i,i < n→∃ a,p i a):∃ xs:List α,xs.length=n∧∀ i x,xs[i]?=some x→p i x:=by
 induction n with
 |zero=>exact ⟨[],rfl,by simp⟩
 |succ n ih =>
  obtain ⟨xs,hl,hx⟩:=ih (fun i hi=>h i (by omega))
  obtain ⟨a,ha⟩:=h n (by omega)
  refine ⟨xs++[a],by simp [hl],fun i x hi=>?_⟩
  rw [List.getElem?_append] at hi
  by_cases hlt:i < xs.length
  ·rw [if_pos hlt] at hi;exact hx i x hi
  ·rw [if_neg hlt] at hi
   by_cases h0:i - xs.length=0
   ·rw [h0] at hi;simp at hi;subst hi
    have:i=n:=by omega
    subst this;exact ha
   ·rw [List.getElem?_eq_none (by simp;omega)] at hi;cases hi
theorem of_slice {α:Type} {R:Rd α} {e:TypeId} {size:Nat} (hR:Qk P e R) (ht:P.underlying t=some (.slice e)) (hsz:P.cellsOf e=size) (hpos:0 < size):Qk P t (q4z R size):=fun H enc w fuel cs x h=>by
 rcases DataW.trod_slice ht h with ⟨rfl,_⟩ | ⟨a,len,cap,elems,rest,m,_,rfl,_,_,hl,hm,hlen,hel,_,_⟩
 ·exact ⟨[],none,0,0,rfl,fun h0=>absurd h0 (by simp),rfl,Nat.le_refl _,by unfold maxLen;omega⟩
 ·have hex:∀ i,i < len→∃ a' : α,∃ cs',w.cells? 0 (a.add (i * size)) size=some cs'∧R w (Lt w.heap.size) cs' a':=by
   intro i hi
   have h1:=hel i hi
   rw [hsz,List.getElem?_eq_getElem (show i < elems.length by omega)] at h1
   obtain ⟨cs',hc,ht'⟩:=Option.bind_eq_some_iff.1 h1
   obtain ⟨a',ha'⟩:=hR H enc w m cs' _ ht'
   exact ⟨a',cs',hc,ha'⟩
  obtain ⟨xs,hxl,hxs⟩:=gather len _ hex
  refine ⟨xs,some a,len,cap,rfl,fun h0=>?_,hxl,hl,hm⟩
  obtain ⟨b,off,spot⟩:=a
  obtain ⟨x0,cs0,hc0,_⟩:=hex 0 (by omega)
  have hb:=World.cells?_block hc0 hpos
  have hcell0:=(World.cells?_some hc0).2.2 0 hpos
  have hl0:=(World.cells?_some hc0).2.1
  rw [List.getElem?_eq_getElem (by omega)] at hcell0
  have hs:spot=none:=by simpa [Addr.add] using World.cell?_spot hcell0
  subst hs
  refine ⟨b,off,rfl,by simpa [Addr.add] using hb,fun j x hj=>?_⟩
  obtain ⟨cs',hc,hr⟩:=hxs j x hj
  obtain ⟨_,h2,h3⟩:=World.cells?_some hc
  refine ⟨cs',h2,fun i c hi=>?_,hr⟩
  have hil:i < cs'.length:=(List.getElem?_eq_some_iff.1 hi).1
  rw [← hi,← h3 i (by omega)]
  congr 1
  by_cases hj0:j * size=0<;>by_cases hi0:i=0<;>simp [Addr.add,hj0,hi0]
theorem Fj {α:Type} {R:Rd α} {fs:Array Field} (ht:P.underlying t=some (.struct fs)) {H:Type} {enc:TypeId × Value→H} {w:World} {fuel:Nat} {cs:List Value} {x:DataW H × List MemPlace}
  (h:DataW.trod enc P w 0 (fun _=>true) true fuel t cs=some x) (i:Nat) (f:Field) (hf:fs[i]?=some f) (size:Nat) (hsz:P.cellsOf f.type=size) (hR:Qk P f.type R):∃ a,R w (Lt w.heap.size) ((cs.drop f.offset).take size) a:=by
 obtain ⟨xs,m,_,_,hl,hxl,hx⟩:=DataW.trod_struct ht h
 have h1:=hx i f hf
 have hi:i < xs.length:=by
  have:=(Array.getElem?_eq_some_iff.1 hf).1
  omega
 rw [hsz,List.getElem?_eq_getElem hi] at h1
 exact hR H enc w m _ _ h1
theorem qiu {fs:Array Field} (ht:P.underlying t=some (.struct fs)) {H:Type} {enc:TypeId × Value→H} {w:World} {fuel:Nat} {cs:List Value} {x:DataW H × List MemPlace}
  (h:DataW.trod enc P w 0 (fun _=>true) true fuel t cs=some x):cs.length=P.cellsOf t:=by
 obtain ⟨xs,m,_,_,hl,_⟩:=DataW.trod_struct ht h
 exact hl
theorem qr2 {α:Type} {R:Rd α} (hR:Qk P t R) {H:Type} {enc:TypeId × Value→H} {w:World} {v:Value} {d:DataW H} {ps:List MemPlace} (h:DataW.Trod enc P w 0 (fun _=>true) true t v d ps):∃ a,R w (Lt w.heap.size) v.cells.toList a:=by
 obtain ⟨fuel,hf⟩:=h
 exact hR H enc w fuel _ _ hf
end
end Go.Proofs.YtbbjlfbemibfcaaGreat
end
section
namespace Go.Proofs.YtbbjlfbemibfcaaGreat
set_option maxRecDepth 20000
open Go.RowKit
def Each {α:Type} (R:Rd α) (size:Nat) (w:World) (S:Nat→Prop):List (List Value)→List α→Prop
 | [],[]=>True
 |cs :: css,x :: xs=>cs.length=size∧R w S cs x∧Each R size w S css xs
 | _,_=>False
section
variable {α:Type} {R:Rd α} {size:Nat} {w w' : World} {S S' : Nat→Prop}
theorem Each.len {css:List (List Value)} {xs:List α} (h:Each R size w S css xs):css.length=xs.length∧css.flatten.length=xs.length * size:=by
 induction css generalizing xs with
 |nil=>cases xs with
  |nil=>simp
  |cons _ _=>cases h
 |cons cs css ih=>cases xs with
  |nil=>cases h
  |cons x xs =>
   have:=ih h.2.2
   simp only [List.length_cons,List.flatten_cons,List.length_append,h.1,this.1,this.2,Nat.succ_mul]
   exact ⟨trivial,by omega⟩
theorem Each.at_ {css:List (List Value)} {xs:List α} (h:Each R size w S css xs) {j:Nat} {x:α} (hj:xs[j]?=some x):∃ cs,cs.length=size∧(∀ i c,cs[i]?=some c→css.flatten[j * size+i]?=some c)∧R w S cs x:=by
 induction css generalizing xs j with
 |nil=>cases xs with
  |nil=>simp at hj
  |cons _ _=>cases h
 |cons cs css ih=>cases xs with
  |nil=>cases h
  |cons y xs =>
   cases j with
   |zero =>
    simp at hj;subst hj
    refine ⟨cs,h.1,fun i c hi=>?_,h.2.1⟩
    rw [List.flatten_cons,Nat.zero_mul,Nat.zero_add,List.getElem?_append_left (List.getElem?_eq_some_iff.1 hi).1]
    exact hi
   |succ j =>
    obtain ⟨cs',hl,hc,hr⟩:=ih h.2.2 (j:=j) (by simpa using hj)
    refine ⟨cs',hl,fun i c hi=>?_,hr⟩
    rw [List.flatten_cons,List.getElem?_append_right (by rw [h.1,Nat.succ_mul];omega),h.1,show (j+1) * size+i - size=j * size+i by rw [Nat.succ_mul];omega]
    exact hc i c hi
theorem Each.keep (hR:qc2 R) {css:List (List Value)} {xs:List α} (h:Each R size w S css xs) (hc:Alike S w w') (hS:∀ b,S b→S' b):Each R size w' S' css xs:=by
 induction css generalizing xs with
 |nil=>cases xs with
  |nil=>trivial
  |cons _ _=>cases h
 |cons cs css ih=>cases xs with
  |nil=>cases h
  |cons x xs=>exact ⟨h.1,hR _ _ _ _ _ _ h.2.1 hc hS,ih h.2.2⟩
theorem Each.append {css Ub:List (List Value)} {xs ys:List α} (h:Each R size w S css xs) (g:Each R size w S Ub ys):Each R size w S (css++Ub) (xs++ys):=by
 induction css generalizing xs with
 |nil=>cases xs with
  |nil=>exact g
  |cons _ _=>cases h
 |cons cs css ih=>cases xs with
  |nil=>cases h
  |cons x xs=>exact ⟨h.1,h.2.1,ih h.2.2⟩
theorem Each.leaf (hL:Leaf R) {css:List (List Value)} {xs:List α} (h:Each R size w S css xs):∀ c ∈ css.flatten,c.oneCell'=true:=by
 induction css generalizing xs with
 |nil=>simp
 |cons cs css ih=>cases xs with
  |nil=>cases h
  |cons x xs =>
   intro c hc
   rw [List.flatten_cons] at hc
   rcases List.mem_append.1 hc with h1 | h1
   ·exact hL _ _ _ _ h.2.1 c h1
   ·exact ih h.2.2 c h1
theorem ql.each {A:Option Addr} {xs:List α} (h:ql R size w S A xs):∃ css,Each R size w S css xs∧(0 < xs.length→∃ b off,A=some ⟨b,off,none⟩∧S b∧∀ j c,css.flatten[j]?=some c→w.cell? ⟨b,off+j,none⟩=some c):=by
 by_cases h0:0 < xs.length
 ·obtain ⟨b,off,e,hb,hc⟩:=h h0
  have key:∀ (ys:List α) (k:Nat),(∀ j x,ys[j]?=some x→xs[k+j]?=some x)→∃ css,Each R size w S css ys∧∀ j c,css.flatten[j]?=some c→w.cell? ⟨b,off+k * size+j,none⟩=some c:=by
   intro ys
   induction ys with
   |nil=>intro k _;exact ⟨[],trivial,by simp⟩
   |cons y ys ih =>
    intro k hk
    obtain ⟨cs,hl,hcs,hr⟩:=hc k y (hk 0 y rfl)
    obtain ⟨css,h1,h2⟩:=ih (k+1) (fun j x hj=>by have:=hk (j+1) x (by simpa using hj);rw [show k+1+j=k+(j+1) by omega];exact this)
    refine ⟨cs :: css,⟨hl,hr,h1⟩,fun j c hj=>?_⟩
    rw [List.flatten_cons] at hj
    by_cases hlt:j < cs.length
    ·rw [List.getElem?_append_left hlt] at hj
     exact hcs j c hj
    ·rw [List.getElem?_append_right (by omega)] at hj
     have:=h2 (j - cs.length) c hj
     rw [show off+(k+1) * size+(j - cs.length)=off+k * size+j by rw [Nat.succ_mul];omega] at this
     exact this
  obtain ⟨css,h1,h2⟩:=key xs 0 (fun j x hj=>by simpa using hj)
  exact ⟨css,h1,fun _=>⟨b,off,e,hb,fun j c hj=>by simpa using h2 j c hj⟩⟩
 ·have:xs=[]:=List.eq_nil_of_length_eq_zero (by omega)
  subst this
  exact ⟨[],trivial,fun h=>absurd h h0⟩
end
def um {α:Type} (R:Rd α) (size:Nat) (w:World) (base:Nat) (e:TypeId) (S:Nat→Prop) (A:Option Addr) (n c:Nat) (xs:List α):Prop :=
 ∃ css,w.ownsRow base e size (.slice A n c) n css.flatten∧Each R size w S css xs∧xs.length=n
section
variable {α:Type} {R:Rd α} {size:Nat} {w w' : World} {base:Nat} {e:TypeId} {S S' : Nat→Prop} {A:Option Addr} {n c:Nat} {xs:List α}
theorem um.nil:um R size w base e S none 0 0 ([]:List α):=⟨[],World.ownsRow_nil _ _ _ _,trivial,rfl⟩
theorem um.len (h:um R size w base e S A n c xs):xs.length=n:=by obtain ⟨_,_,_,h3⟩:=h;exact h3
theorem um.block (h:um R size w base e S A n c xs):∀ g,(Value.slice A n c).ownBlock=some g→base≤g∧g < w.heap.size:=by obtain ⟨_,h1,_,_⟩:=h;exact h1.lt
theorem um.alloc (hR:qc2 R) (h:um R size w base e S A n c xs) (hS:∀ b,S b→b < w.heap.size) (o:Obj):um R size (w.alloc o) base e S A n c xs:=by
 obtain ⟨css,h1,h2,h3⟩:=h
 exact ⟨css,h1.alloc o,h2.keep hR (fun b o' hb=>World.cell?_alloc_lt w o _ (hS b hb)) (fun _ h=>h),h3⟩
theorem um.drew (hR:qc2 R) (h:um R size w base e S A n c xs):um R size w.drew base e S A n c xs:=by
 obtain ⟨css,h1,h2,h3⟩:=h
 exact ⟨css,h1,h2.keep hR (fun _ _ _=>rfl) (fun _ h=>h),h3⟩
theorem um.cap (h:um R size w base e S A n c xs):n≤c∧c≤maxLen:=by
 obtain ⟨css,h1,_,_⟩:=h
 rcases h1.2 with ⟨hv,h0⟩ | ⟨g,cap,cur,hv,_,_,h2,h3,_⟩
 ·simp only [Value.slice.injEq] at hv
  obtain ⟨_,rfl,rfl⟩:=hv
  exact ⟨Nat.le_refl _,by unfold maxLen;omega⟩
 ·simp only [Value.slice.injEq,true_and] at hv
  obtain ⟨_,rfl⟩:=hv
  exact ⟨h2,h3⟩
theorem um.elems (hR:qc2 R) (hs:0 < size) (h:um R size w base e S A n c xs) (hS:∀ b,S b→S' b) (hown:∀ g,base≤g→g < w.heap.size→S' g):ql R size w S' A xs:=fun h0=>by
 obtain ⟨css,h1,h2,h3⟩:=h
 obtain ⟨g,cap,hv,hb,hlt⟩:=World.ownsRow.form h1 (by omega)
 have hA:A=some ⟨g,0,none⟩:=by injection hv
 subst hA
 refine ⟨g,0,rfl,hown g hb hlt,fun j x hj=>?_⟩
 obtain ⟨cs,hl,hc,hr⟩:=h2.at_ hj
 refine ⟨cs,hl,fun i c hi=>?_,hR _ _ _ _ _ _ hr (alike_refl _ _) hS⟩
 have h4:=hc i c hi
 have hj' : j < n:=by have:=(List.getElem?_eq_some_iff.1 hj).1;omega
 have hi' : i < size:=by have:=(List.getElem?_eq_some_iff.1 hi).1;omega
 have hlt2:j * size+i < n * size:=by
  have:(j+1) * size≤n * size:=Nat.mul_le_mul_right _ (by omega)
  rw [Nat.succ_mul] at this
  omega
 rw [Nat.zero_add,World.ownsRow.cellAt h1 (j * size+i) hlt2]
 exact h4
end
theorem Dj {w:World} {g:Nat} {cs:Array Value} {t:TypeId} (h:w.heap[g]?=some (.cells cs t (0,0))) (i:Nat) (v:Value) (hv:cs[i]?=some v):w.cell? ⟨g,i,none⟩=some v∧w.frozen? ⟨g,i,none⟩=false :=
 ⟨(cell_of_row w g i cs t (0,0) h).trans hv,frozen_of_row w g i cs t h⟩
theorem Hr {α:Type} {R:Rd α} {size:Nat} {w:World} {S:Nat→Prop} {cs:List Value} {x:α} (hl:cs.length=size) (h:R w S cs x):Each R size w S [cs] [x]:=⟨hl,h,trivial⟩
theorem qnn {P:Program} {w:World} {α:Type} {R:Rd α} (hR:qc2 R) (hL:Leaf R) {size:Nat} (hsz0:0 < size) (base:Nat) (t ty e:TypeId) (z:Value) (bytes:Nat) (ht:P.underlying t=some (.slice e))
  (hinfo:(P.info? e).map (fun i=>(i.zero,i.size,i.bytes))=some (some z,size,bytes)) (hzs:z.cells.size=size)
  {S:Nat→Prop} {A:Option Addr} {n c:Nat} {xs:List α} (hown:um R size w base e S A n c xs) {S3:Nat→Prop} {A2:Option Addr} {m c2:Nat} {ys:List α} {Ub:List (List Value)} (Jo:Each R size w S3 Ub ys) (hcells:0 < m→∃ b off,A2=some ⟨b,off,none⟩∧∀ j c,Ub.flatten[j]?=some c→w.cell? ⟨b,off+j,none⟩=some c) (hm:ys.length=m)
  (h13:∀ b,S b→S3 b) (h3:∀ b,S3 b→b < w.heap.size∧some b≠(Value.slice A n c).ownBlock)
  (h63:n+m≤maxLen) (hbytes:(n+m) * bytes≤140737488355328) (hbase:base≤w.heap.size) :
  ∃ A' c' w',(Builtin.append_ #[t,t] ty #[.slice A n c,.slice A2 m c2]).run P w = .ok (.slice A' (n+m) c') w'∧um R size w' base e S3 A' (n+m) c' (xs++ys) ∧
   w.grownBy w' (Value.slice A n c).ownBlock∧((Value.slice A' (n+m) c').ownBlock=(Value.slice A n c).ownBlock∨(Value.slice A' (n+m) c').ownBlock=some w.heap.size):=by
 obtain ⟨i,hi,hz,hsz,hby⟩:=info_parts hinfo
 obtain ⟨css,hrow,zcb,hlen⟩:=hown
 have hall:Each R size w S3 (css++Ub) (xs++ys):=(zcb.keep hR (alike_refl _ _) h13).append Jo
 have hkeep:∀ w',w.grownBy w' (Value.slice A n c).ownBlock→Each R size w' S3 (css++Ub) (xs++ys):=fun w' hg =>
  hall.keep hR (fun b o hb=>World.cell?_of_block (hg.block b (h3 b hb).1 (h3 b hb).2)) (fun _ h=>h)
 have hxl:(xs++ys).length=n+m:=by rw [List.length_append,hlen,hm]
 by_cases h0:m=0
 ·subst h0
  have zhw:ys=[]:=List.eq_nil_of_length_eq_zero hm
  subst zhw
  have hd0:Ub=[]:=List.eq_nil_of_length_eq_zero (by have:=Jo.len.1;simpa using this)
  subst hd0
  rw [List.append_nil] at hkeep
  rcases A2 with _ | ad
  ·refine ⟨A,c,w,qke base t ty e i size ht hi _ n _ hrow c2,⟨css,by simpa using hrow,?_,hxl⟩,World.grownBy.refl w _,.inl rfl⟩
   exact hkeep w (World.grownBy.refl w _)
  ·obtain ⟨v',w',hrun,h2,h3',_,h5⟩:=run_append_own_at (P:=P) w base t ty e i z size bytes ht hi hz hsz hby hzs hsz0 _ n _ hrow ad 0 c2 [] (by simp) (by simp) (by simp) h63 hbytes hbase
   have hf:=h2
   rcases h2.2 with ⟨rfl,hn0⟩ | ⟨g,cap,cur,rfl,_⟩
   ·refine ⟨none,0,w',by rw [hrun,hn0],⟨css,?_,hkeep w' h3',hxl⟩,h3',?_⟩
    ·rw [hn0] at hf ⊢;simpa using hf
    ·rw [hn0];exact h5
   ·exact ⟨some ⟨g,0,none⟩,cap,w',hrun,⟨css,by simpa using hf,hkeep w' h3',hxl⟩,h3',h5⟩
 ·obtain ⟨b,off,rfl,hc⟩:=hcells (by omega)
  obtain ⟨v',w',hrun,h2,h3',_,h5⟩:=run_append_own_at (P:=P) w base t ty e i z size bytes ht hi hz hsz hby hzs hsz0 _ n _ hrow ⟨b,off,none⟩ m c2 Ub.flatten (by rw [Jo.len.2,hm])
   (by
    intro j u hj
    rw [← hc j u hj]
    by_cases hj0:j=0<;>simp [Addr.add,hj0])
   (Jo.leaf hL) h63 hbytes hbase
  obtain ⟨g,cap,rfl,_,_⟩:=World.ownsRow.form h2 (by omega)
  exact ⟨_,_,w',hrun,⟨css++Ub,by rw [List.flatten_append];exact h2,hkeep w' h3',hxl⟩,h3',h5⟩
end Go.Proofs.YtbbjlfbemibfcaaGreat
end
section
namespace Go.Proofs.YtbbjlfbemibfcaaGreat
set_option maxRecDepth 20000
open Go.RowKit
end Go.Proofs.YtbbjlfbemibfcaaGreat
end
section
namespace Go.Proofs.YtbbjlfbemibfcaaGreat
set_option maxRecDepth 20000
open Go.RowKit
end Go.Proofs.YtbbjlfbemibfcaaGreat
end
section
namespace Go.Proofs.YtbbjlfbemibfcaaGreat
set_option maxRecDepth 20000
open Go.RowKit
theorem qr3 {P:Program} (t e size bytes:Nat) (z:Value) (ht:P.underlying t=some (.slice e)) (hinfo:(P.info? e).map (fun i=>(i.zero,i.size,i.bytes))=some (some z,size,bytes))
  (A:Option Addr) (n c k:Nat) (x:Int) (hx:x=(k:Int)) (hk:k≤c) (w:World):(Instr.slice t (.slice A n c) none (some (.int .i64 x)) none).run P w = .ok (.slice A k c) w:=by
 subst hx
 obtain ⟨i,hi,_,hsz,_⟩:=info_parts hinfo
 have he:P.elem t=e:=by simp [Program.elem,ht]
 rw [run_slice_h (P:=P) (w:=w) t A n c (by rw [he];exact ht) .i64 (k:Int) (by omega) (by omega),he]
 rcases A with _ | ⟨b,off,sp⟩
 ·simp [sizeOf,typeInfo,hi,Result.andThen,sliced]
 ·simp [sizeOf,typeInfo,hi,Result.andThen,sliced,Addr.add]
theorem ql.cut {α:Type} {R:Rd α} {size:Nat} {w:World} {S:Nat→Prop} {A:Option Addr} {xs:List α} (h:ql R size w S A xs) (m cap:Nat) (hc:xs.length≤cap):ql R size w S (cutAt A cap m size) (xs.drop m):=fun h0=>by
 rw [List.length_drop] at h0
 obtain ⟨b,off,rfl,hb,hj⟩:=h (by omega)
 have hne:¬ cap=m:=by omega
 refine ⟨b,off+m * size,by simp [cutAt,hne,Addr.add],hb,fun j x hx=>?_⟩
 rw [List.getElem?_drop] at hx
 obtain ⟨cs,h1,h2,h3⟩:=hj (m+j) x hx
 refine ⟨cs,h1,fun i c hic=>?_,h3⟩
 have:=h2 i c hic
 rw [Nat.add_mul] at this
 rw [← this]
 congr 2
 omega
end Go.Proofs.YtbbjlfbemibfcaaGreat
end
