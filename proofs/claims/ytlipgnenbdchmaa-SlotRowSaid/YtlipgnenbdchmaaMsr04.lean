/-
  Read
-/
import Derived.Test.YtlipgnenbdchmaaMsr03
import Derived.OpenShut
import Derived.ChangeOld
import Derived.ChangeArms
set_option linter.unusedVariables false
set_option linter.unusedSimpArgs false
namespace Go.Proofs.Ytlipgnenbdchmaa
set_option maxRecDepth 20000
open Go.RowKit
abbrev Rd (α:Type):=World→(Nat→Prop)→List Value→α→Prop
def Alike (S:Nat→Prop) (w w' : World):Prop := ∀ b o,S b→w'.cell? ⟨b,o,none⟩=w.cell? ⟨b,o,none⟩
def Keeps {α:Type} (R:Rd α):Prop := ∀ (w w' : World) (S S' : Nat→Prop) (cs:List Value) (a:α),R w S cs a→Alike S w w'→(∀ b,S b→S' b)→R w' S' cs a
def Leaf {α:Type} (R:Rd α):Prop := ∀ (w:World) (S:Nat→Prop) (cs:List Value) (a:α),R w S cs a→∀ c ∈ cs,c.oneCell'=true
abbrev Lt (B:Nat):Nat→Prop:=fun b=>b < B
def OfTrod (P:Program) (t:TypeId) {α:Type} (R:Rd α):Prop :=
 ∀ (H:Type) (enc:TypeId × Value→H) (w:World) (fuel:Nat) (cs:List Value) (x:DataW H × List MemPlace),DataW.trod enc P w 0 (fun _=>true) true fuel t cs=some x→∃ a,R w (Lt w.heap.size) cs a
theorem below_alike {B:Nat} {w w' : World} (h:Below B w w'):Alike (Lt B) w w':=fun b o hb=>h.cell (p:=⟨b,o,none⟩) hb
theorem alike_refl (S:Nat→Prop) (w:World):Alike S w w:=fun _ _ _=>rfl
def IntsIn (k:IntKind) (w:World) (S:Nat→Prop) (A:Option Addr) (xs:List Int):Prop :=
 (∀ x ∈ xs,(Lit.int k x).wf=true)∧(0 < xs.length→∃ b off,A=some ⟨b,off,none⟩∧S b∧∀ j,j < xs.length→w.cell? ⟨b,off+j,none⟩=some (.int k (xs.getD j 0)))
abbrev BysIn (w:World) (S:Nat→Prop) (A:Option Addr) (bs:List Nat):Prop:=IntsIn .u8 w S A (toI bs)
theorem ints_in {k:IntKind} {w:World} {B:Nat} {A:Option Addr} {xs:List Int} : Ints k w B A xs ↔ IntsIn k w (Lt B) A xs:=Iff.rfl
theorem IntsIn.keep {k:IntKind} {w w' : World} {S S' : Nat→Prop} {A:Option Addr} {xs:List Int} (h:IntsIn k w S A xs) (hc:Alike S w w') (hS:∀ b,S b→S' b):IntsIn k w' S' A xs :=
 ⟨h.1,fun hn=>by
  obtain ⟨b,off,e,hlt,hcell⟩:=h.2 hn
  exact ⟨b,off,e,hS b hlt,fun j hj=>(hc b _ hlt).trans (hcell j hj)⟩⟩
theorem BysIn.bys {w:World} {S:Nat→Prop} {B:Nat} {A:Option Addr} {bs:List Nat} (h:BysIn w S A bs) (hS:∀ b,S b→b < B):Bys w B A bs:=ints_in.2 (h.keep (alike_refl _ _) hS)
def rdInt (k:IntKind):Rd Int:=fun _ _ cs n=>cs=[.int k n]∧(Lit.int k n).wf=true
def rdInts (k:IntKind):Rd (List Int):=fun w S cs xs => ∃ A n cap,cs=[.slice A n cap]∧IntsIn k w S A xs∧xs.length=n∧n≤cap∧cap≤maxLen
def rdBytes:Rd (List Nat):=fun w S cs bs => ∃ A n cap,cs=[.slice A n cap]∧BysIn w S A bs∧bs.length=n∧n≤cap∧cap≤maxLen
def Elems {α:Type} (R:Rd α) (size:Nat) (w:World) (S:Nat→Prop) (A:Option Addr) (xs:List α):Prop :=
 0 < xs.length→∃ b off,A=some ⟨b,off,none⟩∧S b∧∀ j x,xs[j]?=some x→∃ cs,cs.length=size∧(∀ i c,cs[i]?=some c→w.cell? ⟨b,off+j * size+i,none⟩=some c)∧R w S cs x
theorem keeps_int (k:IntKind):Keeps (rdInt k):=fun _ _ _ _ _ _ h _ _=>h
theorem Elems.keep {α:Type} {R:Rd α} {size:Nat} {w w' : World} {S S' : Nat→Prop} {A:Option Addr} {xs:List α} (hR:Keeps R) (h:Elems R size w S A xs) (hc:Alike S w w') (hS:∀ b,S b→S' b):Elems R size w' S' A xs:=fun hn=>by
 obtain ⟨b,off,e,hlt,hcell⟩:=h hn
 refine ⟨b,off,e,hS b hlt,fun j x hx=>?_⟩
 obtain ⟨cs,hl,hcs,hr⟩:=hcell j x hx
 exact ⟨cs,hl,fun i c hi=>(hc b _ hlt).trans (hcs i c hi),hR _ _ _ _ _ _ hr hc hS⟩
section
variable {P:Program} {t:TypeId}
theorem of_ints {e:TypeId} {k:IntKind} (ht:P.underlying t=some (.slice e)) (he:P.underlying e=some (.int k)) (hc:P.cellsOf e=1):OfTrod P t (rdInts k):=fun H enc w fuel cs x h=>by
 rcases ChangeShapes.open_ints ht he hc h with ⟨rfl,_⟩ | ⟨a,len,cap,zs,rfl,_,hl,hm,hz,_,hcell,hw⟩
 ·exact ⟨[],none,0,0,rfl,ints_in.1 (Ints.nil _ _ _ _),rfl,Nat.le_refl _,by unfold maxLen;omega⟩
 ·have:=ints_of_row (w:=w) (.inr ⟨a,rfl,hl,hm,by simpa using hz,hcell,hw⟩)
  exact ⟨zs.take len,_,_,_,rfl,ints_in.1 this.1,this.2.1,hl,hm⟩
theorem of_bytes {e:TypeId} (ht:P.underlying t=some (.slice e)) (he:P.underlying e=some (.int .u8)) (hc:P.cellsOf e=1):OfTrod P t rdBytes:=fun H enc w fuel cs x h=>by
 obtain ⟨xs,A,n,cap,e1,h1,h2,h3⟩:=of_ints ht he hc H enc w fuel cs x h
 obtain ⟨bs,rfl,hb⟩:=(ints_in.2 h1).bys
 exact ⟨bs,A,n,cap,e1,ints_in.1 hb,by rw [← h2,toI_len],h3⟩
theorem gather {α:Type} (n:Nat) (p:Nat→α→Prop) (h:∀ i,i < n→∃ a,p i a):∃ xs:List α,xs.length=n∧∀ i x,xs[i]?=some x→p i x:=by
 induction n with
 |zero=>exact ⟨[],rfl,by simp⟩
 |succ n ih =>
  obtain ⟨xs,hl,hx⟩:=ih (fun i hi=>h i (by omega))
  obtain ⟨a,ha⟩:=h n (by omega)
  refine ⟨xs++[a],by simp [hl],fun i x hi=>?_⟩
  rw [List.getElem?_append] at hi
  by_cases hlt:i < xs.length
  ·rw [if_pos hlt] at hi;exact hx i x hi
  ·rw [if_neg hlt] at hi
   by_cases h0:i - xs.length=0
   ·rw [h0] at hi;simp at hi;subst hi
    have:i=n:=by omega
    subst this;exact ha
   ·rw [List.getElem?_eq_none (by simp;omega)] at hi;cases hi
theorem of_arg {α:Type} {R:Rd α} (hR:OfTrod P t R) {H:Type} {enc:TypeId × Value→H} {w:World} {v:Value} {d:DataW H} {ps:List MemPlace} (h:DataW.Trod enc P w 0 (fun _=>true) true t v d ps):∃ a,R w (Lt w.heap.size) v.cells.toList a:=by
 obtain ⟨fuel,hf⟩:=h
 exact hR H enc w fuel _ _ hf
end
end Go.Proofs.Ytlipgnenbdchmaa
