/-
  Read
-/
import Derived.Test.YtcpahggkioagkaaMvf03
import Derived.OpenShut
import Derived.ChangeOld
import Derived.ChangeArms
set_option linter.unusedVariables false
set_option linter.unusedSimpArgs false
namespace Go.Proofs.Ytcpahggkioagkaa
set_option maxRecDepth 20000
open Go.RowKit
abbrev Rd (α:Type):=World→(Nat→Prop)→List Value→α→Prop
def Alike (S:Nat→Prop) (w w' : World):Prop := ∀ b o,S b→w'.cell? ⟨b,o,none⟩=w.cell? ⟨b,o,none⟩
def Keeps {α:Type} (R:Rd α):Prop := ∀ (w w' : World) (S S' : Nat→Prop) (cs:List Value) (a:α),R w S cs a→Alike S w w'→(∀ b,S b→S' b)→R w' S' cs a
def Leaf {α:Type} (R:Rd α):Prop := ∀ (w:World) (S:Nat→Prop) (cs:List Value) (a:α),R w S cs a→∀ c ∈ cs,c.oneCell'=true
abbrev Lt (B:Nat):Nat→Prop:=fun b=>b < B
def OfTrod (P:Program) (t:TypeId) {α:Type} (R:Rd α):Prop :=
 ∀ (H:Type) (enc:TypeId × Value→H) (w:World) (fuel:Nat) (cs:List Value) (x:DataW H × List MemPlace),DataW.trod enc P w 0 (fun _=>true) true fuel t cs=some x→∃ a,R w (Lt w.heap.size) cs a
theorem below_alike {B:Nat} {w w' : World} (h:Below B w w'):Alike (Lt B) w w':=fun b o hb=>h.cell (p:=⟨b,o,none⟩) hb
theorem alike_refl (S:Nat→Prop) (w:World):Alike S w w:=fun _ _ _=>rfl
def IntsIn (k:IntKind) (w:World) (S:Nat→Prop) (A:Option Addr) (xs:List Int):Prop :=
 (∀ x ∈ xs,(Lit.int k x).wf=true)∧(0 < xs.length→∃ b off,A=some ⟨b,off,none⟩∧S b∧∀ j,j < xs.length→w.cell? ⟨b,off+j,none⟩=some (.int k (xs.getD j 0)))
abbrev BysIn (w:World) (S:Nat→Prop) (A:Option Addr) (bs:List Nat):Prop:=IntsIn .u8 w S A (toI bs)
theorem ints_in {k:IntKind} {w:World} {B:Nat} {A:Option Addr} {xs:List Int} : Ints k w B A xs ↔ IntsIn k w (Lt B) A xs:=Iff.rfl
theorem IntsIn.keep {k:IntKind} {w w' : World} {S S' : Nat→Prop} {A:Option Addr} {xs:List Int} (h:IntsIn k w S A xs) (hc:Alike S w w') (hS:∀ b,S b→S' b):IntsIn k w' S' A xs :=
 ⟨h.1,fun hn=>by
  obtain ⟨b,off,e,hlt,hcell⟩:=h.2 hn
  exact ⟨b,off,e,hS b hlt,fun j hj=>(hc b _ hlt).trans (hcell j hj)⟩⟩
def rdInt (k:IntKind):Rd Int:=fun _ _ cs n=>cs=[.int k n]∧(Lit.int k n).wf=true
def rdBool:Rd Bool:=fun _ _ cs b=>cs=[.bool b]
def Elems {α:Type} (R:Rd α) (size:Nat) (w:World) (S:Nat→Prop) (A:Option Addr) (xs:List α):Prop :=
 0 < xs.length→∃ b off,A=some ⟨b,off,none⟩∧S b∧∀ j x,xs[j]?=some x→∃ cs,cs.length=size∧(∀ i c,cs[i]?=some c→w.cell? ⟨b,off+j * size+i,none⟩=some c)∧R w S cs x
def rdSlice {α:Type} (R:Rd α) (size:Nat):Rd (List α):=fun w S cs xs => ∃ A n cap,cs=[.slice A n cap]∧Elems R size w S A xs∧xs.length=n∧n≤cap∧cap≤maxLen
theorem keeps_int (k:IntKind):Keeps (rdInt k):=fun _ _ _ _ _ _ h _ _=>h
theorem Elems.keep {α:Type} {R:Rd α} {size:Nat} {w w' : World} {S S' : Nat→Prop} {A:Option Addr} {xs:List α} (hR:Keeps R) (h:Elems R size w S A xs) (hc:Alike S w w') (hS:∀ b,S b→S' b):Elems R size w' S' A xs:=fun hn=>by
 obtain ⟨b,off,e,hlt,hcell⟩:=h hn
 refine ⟨b,off,e,hS b hlt,fun j x hx=>?_⟩
 obtain ⟨cs,hl,hcs,hr⟩:=hcell j x hx
 exact ⟨cs,hl,fun i c hi=>(hc b _ hlt).trans (hcs i c hi),hR _ _ _ _ _ _ hr hc hS⟩
section
variable {P:Program} {t:TypeId}
theorem of_int {k:IntKind} (ht:P.underlying t=some (.int k)):OfTrod P t (rdInt k):=fun H enc w fuel cs x h=>by
 obtain ⟨n,e,_,hw⟩:=DataW.trod_int ht h
 exact ⟨n,e,hw⟩
theorem of_bool (ht:P.underlying t=some .bool):OfTrod P t rdBool:=fun H enc w fuel cs x h=>by
 obtain ⟨b,e,_⟩:=DataW.trod_bool ht h
 exact ⟨b,e⟩
theorem gather {α:Type} (n:Nat) (p:Nat→α→Prop) (h:∀ i,i < n→∃ a,p i a):∃ xs:List α,xs.length=n∧∀ i x,xs[i]?=some x→p i x:=by
 induction n with
 |zero=>exact ⟨[],rfl,by simp⟩
 |succ n ih =>
  obtain ⟨xs,hl,hx⟩:=ih (fun i hi=>h i (by omega))
  obtain ⟨a,ha⟩:=h n (by omega)
  refine ⟨xs++[a],by simp [hl],fun i x hi=>?_⟩
  rw [List.getElem?_append] at hi
  by_cases hlt:i < xs.length
  ·rw [if_pos hlt] at hi;exact hx i x hi
  ·rw [if_neg hlt] at hi
   by_cases h0:i - xs.length=0
   ·rw [h0] at hi;simp at hi;subst hi
    have:i=n:=by omega
    subst this;exact ha
   ·rw [List.getElem?_eq_none (by simp;omega)] at hi;cases hi
theorem of_slice {α:Type} {R:Rd α} {e:TypeId} {size:Nat} (hR:OfTrod P e R) (ht:P.underlying t=some (.slice e)) (hsz:P.cellsOf e=size) (hpos:0 < size):OfTrod P t (rdSlice R size):=fun H enc w fuel cs x h=>by
 rcases DataW.trod_slice ht h with ⟨rfl,_⟩ | ⟨a,len,cap,elems,rest,m,_,rfl,_,_,hl,hm,hlen,hel,_,_⟩
 ·exact ⟨[],none,0,0,rfl,fun h0=>absurd h0 (by simp),rfl,Nat.le_refl _,by unfold maxLen;omega⟩
 ·have hex:∀ i,i < len→∃ a' : α,∃ cs',w.cells? 0 (a.add (i * size)) size=some cs'∧R w (Lt w.heap.size) cs' a':=by
   intro i hi
   have h1:=hel i hi
   rw [hsz,List.getElem?_eq_getElem (show i < elems.length by omega)] at h1
   obtain ⟨cs',hc,ht'⟩:=Option.bind_eq_some_iff.1 h1
   obtain ⟨a',ha'⟩:=hR H enc w m cs' _ ht'
   exact ⟨a',cs',hc,ha'⟩
  obtain ⟨xs,hxl,hxs⟩:=gather len _ hex
  refine ⟨xs,some a,len,cap,rfl,fun h0=>?_,hxl,hl,hm⟩
  obtain ⟨b,off,spot⟩:=a
  obtain ⟨x0,cs0,hc0,_⟩:=hex 0 (by omega)
  have hb:=World.cells?_block hc0 hpos
  have hcell0:=(World.cells?_some hc0).2.2 0 hpos
  have hl0:=(World.cells?_some hc0).2.1
  rw [List.getElem?_eq_getElem (by omega)] at hcell0
  have hs:spot=none:=by simpa [Addr.add] using World.cell?_spot hcell0
  subst hs
  refine ⟨b,off,rfl,by simpa [Addr.add] using hb,fun j x hj=>?_⟩
  obtain ⟨cs',hc,hr⟩:=hxs j x hj
  obtain ⟨_,h2,h3⟩:=World.cells?_some hc
  refine ⟨cs',h2,fun i c hi=>?_,hr⟩
  have hil:i < cs'.length:=(List.getElem?_eq_some_iff.1 hi).1
  rw [← hi,← h3 i (by omega)]
  congr 1
  by_cases hj0:j * size=0<;>by_cases hi0:i=0<;>simp [Addr.add,hj0,hi0]
theorem of_field {α:Type} {R:Rd α} {fs:Array Field} (ht:P.underlying t=some (.struct fs)) {H:Type} {enc:TypeId × Value→H} {w:World} {fuel:Nat} {cs:List Value} {x:DataW H × List MemPlace}
  (h:DataW.trod enc P w 0 (fun _=>true) true fuel t cs=some x) (i:Nat) (f:Field) (hf:fs[i]?=some f) (size:Nat) (hsz:P.cellsOf f.type=size) (hR:OfTrod P f.type R):∃ a,R w (Lt w.heap.size) ((cs.drop f.offset).take size) a:=by
 obtain ⟨xs,m,_,_,hl,hxl,hx⟩:=DataW.trod_struct ht h
 have h1:=hx i f hf
 have hi:i < xs.length:=by
  have:=(Array.getElem?_eq_some_iff.1 hf).1
  omega
 rw [hsz,List.getElem?_eq_getElem hi] at h1
 exact hR H enc w m _ _ h1
theorem struct_len {fs:Array Field} (ht:P.underlying t=some (.struct fs)) {H:Type} {enc:TypeId × Value→H} {w:World} {fuel:Nat} {cs:List Value} {x:DataW H × List MemPlace}
  (h:DataW.trod enc P w 0 (fun _=>true) true fuel t cs=some x):cs.length=P.cellsOf t:=by
 obtain ⟨xs,m,_,_,hl,_⟩:=DataW.trod_struct ht h
 exact hl
theorem of_arg {α:Type} {R:Rd α} (hR:OfTrod P t R) {H:Type} {enc:TypeId × Value→H} {w:World} {v:Value} {d:DataW H} {ps:List MemPlace} (h:DataW.Trod enc P w 0 (fun _=>true) true t v d ps):∃ a,R w (Lt w.heap.size) v.cells.toList a:=by
 obtain ⟨fuel,hf⟩:=h
 exact hR H enc w fuel _ _ hf
end
end Go.Proofs.Ytcpahggkioagkaa
