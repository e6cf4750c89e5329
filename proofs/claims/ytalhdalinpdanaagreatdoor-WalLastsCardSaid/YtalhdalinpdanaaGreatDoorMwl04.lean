/-
  Read, Disk, DiskOps, DiskMath, WalM
-/
import Derived.Test.YtalhdalinpdanaaGreatDoorMwl03
import Derived.OpenShut
import Derived.ChangeOld
import Derived.ChangeArms
import Derived.Test.YtalhdalinpdanaaGreatDoorMwl05
set_option linter.unusedVariables false
set_option linter.unusedSimpArgs false
section
namespace Go.Proofs.YtalhdalinpdanaaGreatDoor
set_option maxRecDepth 20000
open Go.RowKit
abbrev Rd (α:Type):=World→(Nat→Prop)→List Value→α→Prop
def Alike (S:Nat→Prop) (w w' : World):Prop := ∀ b o,S b→w'.cell? ⟨b,o,none⟩=w.cell? ⟨b,o,none⟩
def Keeps {α:Type} (R:Rd α):Prop := ∀ (w w' : World) (S S' : Nat→Prop) (cs:List Value) (a:α),R w S cs a→Alike S w w'→(∀ b,S b→S' b)→R w' S' cs a
def Leaf {α:Type} (R:Rd α):Prop := ∀ (w:World) (S:Nat→Prop) (cs:List Value) (a:α),R w S cs a→∀ c ∈ cs,c.oneCell'=true
abbrev Lt (B:Nat):Nat→Prop:=fun b=>b < B
def OfTrod (P:Program) (t:TypeId) {α:Type} (R:Rd α):Prop :=
 ∀ (H:Type) (enc:TypeId × Value→H) (w:World) (fuel:Nat) (cs:List Value) (x:DataW H × List MemPlace),DataW.trod enc P w 0 (fun _=>true) true fuel t cs=some x→∃ a,R w (Lt w.heap.size) cs a
theorem below_alike {B:Nat} {w w' : World} (h:Below B w w'):Alike (Lt B) w w':=fun b o hb=>h.cell (p:=⟨b,o,none⟩) hb
theorem alike_refl (S:Nat→Prop) (w:World):Alike S w w:=fun _ _ _=>rfl
def IntsIn (k:IntKind) (w:World) (S:Nat→Prop) (A:Option Addr) (xs:List Int):Prop :=
 (∀ x ∈ xs,(Lit.int k x).wf=true)∧(0 < xs.length→∃ b off,A=some ⟨b,off,none⟩∧S b∧∀ j,j < xs.length→w.cell? ⟨b,off+j,none⟩=some (.int k (xs.getD j 0)))
abbrev BysIn (w:World) (S:Nat→Prop) (A:Option Addr) (bs:List Nat):Prop:=IntsIn .u8 w S A (toI bs)
theorem ints_in {k:IntKind} {w:World} {B:Nat} {A:Option Addr} {xs:List Int} : Ints k w B A xs ↔ IntsIn k w (Lt B) A xs:=Iff.rfl
theorem IntsIn.keep {k:IntKind} {w w' : World} {S S' : Nat→Prop} {A:Option Addr} {xs:List Int} (h:IntsIn k w S A xs) (hc:Alike S w w') (hS:∀ b,S b→S' b):IntsIn k w' S' A xs :=
 ⟨h.1,fun hn=>by
  obtain ⟨b,off,e,hlt,hcell⟩:=h.2 hn
  exact ⟨b,off,e,hS b hlt,fun j hj=>(hc b _ hlt).trans (hcell j hj)⟩⟩
theorem BysIn.bys {w:World} {S:Nat→Prop} {B:Nat} {A:Option Addr} {bs:List Nat} (h:BysIn w S A bs) (hS:∀ b,S b→b < B):Bys w B A bs:=ints_in.2 (h.keep (alike_refl _ _) hS)
def rdInt (k:IntKind):Rd Int:=fun _ _ cs n=>cs=[.int k n]∧(Lit.int k n).wf=true
def rdInts (k:IntKind):Rd (List Int):=fun w S cs xs => ∃ A n cap,cs=[.slice A n cap]∧IntsIn k w S A xs∧xs.length=n∧n≤cap∧cap≤maxLen
def rdBytes:Rd (List Nat):=fun w S cs bs => ∃ A n cap,cs=[.slice A n cap]∧BysIn w S A bs∧bs.length=n∧n≤cap∧cap≤maxLen
def Elems {α:Type} (R:Rd α) (size:Nat) (w:World) (S:Nat→Prop) (A:Option Addr) (xs:List α):Prop :=
 0 < xs.length→∃ b off,A=some ⟨b,off,none⟩∧S b∧∀ j x,xs[j]?=some x→∃ cs,cs.length=size∧(∀ i c,cs[i]?=some c→w.cell? ⟨b,off+j * size+i,none⟩=some c)∧R w S cs x
theorem keeps_int (k:IntKind):Keeps (rdInt k):=fun _ _ _ _ _ _ h _ _=>h
theorem Elems.keep {α:Type} {R:Rd α} {size:Nat} {w w' : World} {S S' : Nat→Prop} {A:Option Addr} {xs:List α} (hR:Keeps R) (h:Elems R size w S A xs) (hc:Alike S w w') (hS:∀ b,S b→S' b):Elems R size w' S' A xs:=fun hn=>by
 obtain ⟨b,off,e,hlt,hcell⟩:=h hn
 refine ⟨b,off,e,hS b hlt,fun j x hx=>?_⟩
 obtain ⟨cs,hl,hcs,hr⟩:=hcell j x hx
 exact ⟨cs,hl,fun i c hi=>(hc b _ hlt).trans (hcs i c hi),hR _ _ _ _ _ _ hr hc hS⟩
theorem leaf_int (k:IntKind):Leaf (rdInt k):=fun _ _ _ _ h c hc=>by rw [h.1] at hc;simp at hc;subst hc;rfl
section
variable {P:Program} {t:TypeId}
theorem of_ints {e:TypeId} {k:IntKind} (ht:P.underlying t=some (.slice e)) (he:P.underlying e=some (.int k)) (hc:P.cellsOf e=1):OfTrod P t (rdInts k):=fun H enc w fuel cs x h=>by
 rcases ChangeShapes.open_ints ht he hc h with ⟨rfl,_⟩ | ⟨a,len,cap,zs,rfl,_,hl,hm,hz,_,hcell,hw⟩
 ·exact ⟨[],none,0,0,rfl,ints_in.1 (Ints.nil _ _ _ _),rfl,Nat.le_refl _,by unfold maxLen;omega⟩
 ·have:=ints_of_row (w:=w) (.inr ⟨a,rfl,hl,hm,by simpa using hz,hcell,hw⟩)
  exact ⟨zs.take len,_,_,_,rfl,ints_in.1 this.1,this.2.1,hl,hm⟩
theorem of_bytes {e:TypeId} (ht:P.underlying t=some (.slice e)) (he:P.underlying e=some (.int .u8)) (hc:P.cellsOf e=1):OfTrod P t rdBytes:=fun H enc w fuel cs x h=>by
 obtain ⟨xs,A,n,cap,e1,h1,h2,h3⟩:=of_ints ht he hc H enc w fuel cs x h
 obtain ⟨bs,rfl,hb⟩:=(ints_in.2 h1).bys
 exact ⟨bs,A,n,cap,e1,ints_in.1 hb,by rw [← h2,toI_len],h3⟩
theorem gather {α:Type} (n:Nat) (p:Nat→α→Prop) (h:∀ i,i < n→∃ a,p i a):∃ xs:List α,xs.length=n∧∀ i x,xs[i]?=some x→p i x:=by
 induction n with
 |zero=>exact ⟨[],rfl,by simp⟩
 |succ n ih =>
  obtain ⟨xs,hl,hx⟩:=ih (fun i hi=>h i (by omega))
  obtain ⟨a,ha⟩:=h n (by omega)
  refine ⟨xs++[a],by simp [hl],fun i x hi=>?_⟩
  rw [List.getElem?_append] at hi
  by_cases hlt:i < xs.length
  ·rw [if_pos hlt] at hi;exact hx i x hi
  ·rw [if_neg hlt] at hi
   by_cases h0:i - xs.length=0
   ·rw [h0] at hi;simp at hi;subst hi
    have:i=n:=by omega
    subst this;exact ha
   ·rw [List.getElem?_eq_none (by simp;omega)] at hi;cases hi
theorem of_arg {α:Type} {R:Rd α} (hR:OfTrod P t R) {H:Type} {enc:TypeId × Value→H} {w:World} {v:Value} {d:DataW H} {ps:List MemPlace} (h:DataW.Trod enc P w 0 (fun _=>true) true t v d ps):∃ a,R w (Lt w.heap.size) v.cells.toList a:=by
 obtain ⟨fuel,hf⟩:=h
 exact hR H enc w fuel _ _ hf
end
end Go.Proofs.YtalhdalinpdanaaGreatDoor
end
section
namespace Go.Proofs.YtalhdalinpdanaaGreatDoor
set_option maxRecDepth 20000
open Go.RowKit
structure FileD where
 name:ByteArray
 data:List Nat
 sure:Int
structure DiskD where
 files:List FileD
 room:Int
 fuse:Int
 down:Bool
def rdFile:Rd FileD:=fun w S cs f => ∃ A n c,cs=[.string f.name,.slice A n c,.int .i64 f.sure]∧f.name.size≤maxLen∧BysIn w S A f.data∧f.data.length=n∧n≤c∧c≤maxLen∧(Lit.int .i64 f.sure).wf=true
abbrev FilesIn (w:World) (S:Nat→Prop) (A:Option Addr) (fs:List FileD):Prop:=Elems rdFile 3 w S A fs
abbrev Files (w:World) (B:Nat) (A:Option Addr) (fs:List FileD):Prop:=Elems rdFile 3 w (Lt B) A fs
theorem keeps_file:Keeps rdFile:=fun _ _ _ _ _ _ ⟨A,n,c,e,h1,h2,r⟩ hc hS=>⟨A,n,c,e,h1,IntsIn.keep h2 hc hS,r⟩
theorem leaf_file:Leaf rdFile:=fun _ _ _ _ ⟨_,_,_,h,_⟩ c hc=>by
 rw [h] at hc
 simp at hc
 rcases hc with rfl | rfl | rfl<;>rfl
theorem Files.below {w w' : World} {B:Nat} {A:Option Addr} {fs:List FileD} (h:Files w B A fs) (hb:Below B w w'):Files w' B A fs:=Elems.keep keeps_file h (below_alike hb) (fun _ h=>h)
theorem Files.more {w:World} {B B' : Nat} {A:Option Addr} {fs:List FileD} (h:Files w B A fs) (hb:B≤B'):Files w B' A fs:=Elems.keep keeps_file h (alike_refl _ _) (fun _ h=>Nat.lt_of_lt_of_le h hb)
theorem Files.nil (w:World) (S:Nat→Prop) (A:Option Addr):FilesIn w S A []:=fun h=>absurd h (by simp)
theorem Files.at_ {w:World} {B:Nat} {A:Option Addr} {fs:List FileD} (h:Files w B A fs) {j:Nat} (hj:j < fs.length) :
  ∃ b off f A' n c,A=some ⟨b,off,none⟩∧b < B∧Hid (fs[j]?=some f)∧w.cell? ⟨b,off+j * 3,none⟩=some (.string f.name)∧w.cell? ⟨b,off+j * 3+1,none⟩=some (.slice A' n c)∧w.cell? ⟨b,off+j * 3+2,none⟩=some (.int .i64 f.sure) ∧
   f.name.size≤maxLen∧Bys w B A' f.data∧Hid (f.data.length=n)∧n≤c∧c≤maxLen∧inI f.sure:=by
 obtain ⟨b,off,e,hb,hc⟩:=h (by omega)
 obtain ⟨cs,hl,hcs,A',n,c,rfl,h1,h2,h3,h4,h5,h6⟩:=hc j fs[j] (List.getElem?_eq_getElem hj)
 exact ⟨b,off,fs[j],A',n,c,e,hb,Lib.hid (List.getElem?_eq_getElem hj),hcs 0 _ rfl,hcs 1 _ rfl,hcs 2 _ rfl,h1,ints_in.2 h2,Lib.hid h3,h4,h5,inI_of_wf h6⟩
namespace disk
def signOk (c:UInt8):Bool := !((decide ((c.toNat:Int) < 97) || decide (122 < (c.toNat:Int))) && (decide ((c.toNat:Int) < 48) || decide (57 < (c.toNat:Int))) && ((c.toNat:Int) != 46))
def named (s:ByteArray):Bool:=s.data.toList.all signOk && decide (0 < s.size) && decide (s.size≤16)
def sameName (a b:ByteArray):Bool:=a.toList == b.toList
def upTo (a b:ByteArray):Bool:=Op.bytesLess a.toList b.toList || a.toList == b.toList
def used (fs:List FileD):Nat:=(fs.map fun f=>f.data.length).sum
def fileOk (f:FileD):Bool:=named f.name && decide (0≤f.sure) && decide (f.sure≤(f.data.length:Int)) && decide (f.data.length≤65536)
def goodFrom:Option ByteArray→List FileD→Bool
 | _,[]=>true
 |p,f :: r=>fileOk f && (match p with | none=>true | some q => !upTo f.name q) && goodFrom (some f.name) r
def rightB (d:DiskD):Bool:=decide (0≤d.room) && decide (d.room≤65536) && decide (-1≤d.fuse) && decide (d.files.length≤64) && goodFrom none d.files && decide ((used d.files:Int)≤d.room)
def sans (nm:ByteArray) (fs:List FileD):List FileD:=fs.filter fun f => !sameName f.name nm
def shortFile (f:FileD):Bool:=decide (f.data.length≤70000) && decide (f.name.size≤100)
def shortB (fs:List FileD):Bool:=decide (fs.length≤70) && fs.all shortFile && decide (used fs≤70000)
def firstE (d:DiskD) (a b:ByteArray):Int:=if rightB d then (if d.down then 9 else if named a && named b then 0 else 1) else 1
def atLeast (a b:ByteArray):Bool := !Op.bytesLess a.toList b.toList
def putFrom (f:FileD):List FileD→Bool→List FileD
 | [],put=>if put then [] else [f]
 |g :: r,put=>(if !put && atLeast g.name f.name then [f] else [])++((if sameName g.name f.name then [] else [g])++putFrom f r (put || atLeast g.name f.name))
def withF (f:FileD) (fs:List FileD):List FileD:=putFrom f fs false
end disk
end Go.Proofs.YtalhdalinpdanaaGreatDoor
end
section
namespace Go.Proofs.YtalhdalinpdanaaGreatDoor.disk
set_option maxRecDepth 20000
open Go.RowKit
abbrev nlt (a b:ByteArray):Prop:=a.toList < b.toList
theorem less_iff:∀ (x y:List UInt8),Op.bytesLess x y=decide (x < y)
 | [],[]=>by simp [Op.bytesLess]
 | _ :: _,[]=>by simp [Op.bytesLess]
 | [],_ :: _=>by simp [Op.bytesLess]
 |a :: x,b :: y=>by
  rw [Op.bytesLess,less_iff x y]
  simp only [List.cons_lt_cons_iff]
  by_cases h1:a < b<;>by_cases h2:a=b<;>by_cases h3:x < y<;>simp [h1,h2,h3]
theorem nlt_irrefl (a:ByteArray):¬ nlt a a:=List.lt_irrefl _
theorem nlt_trans {a b c:ByteArray} (h:nlt a b) (g:nlt b c):nlt a c:=List.lt_trans h g
theorem nlt_asymm {a b:ByteArray} (h:nlt a b):¬ nlt b a:=fun g=>nlt_irrefl a (nlt_trans h g)
theorem name_eq {a b:ByteArray} : a.toList=b.toList ↔ a=b:=by
 rw [ByteArray.toList_eq,ByteArray.toList_eq]
 constructor
 ·intro h
  obtain ⟨⟨a⟩⟩:=a
  obtain ⟨⟨b⟩⟩:=b
  simp at h
  rw [h]
 ·intro h;rw [h]
theorem nlt_tri (a b:ByteArray):nlt a b∨a=b∨nlt b a:=by
 by_cases h:nlt a b
 ·exact .inl h
 ·by_cases g:nlt b a
  ·exact .inr (.inr g)
  ·exact .inr (.inl (name_eq.1 (List.le_antisymm g h)))
theorem nlt_ne {a b:ByteArray} (h:nlt a b):a≠b:=fun e=>nlt_irrefl b (e▸h)
theorem same_iff {a b:ByteArray} : sameName a b=true ↔ a=b:=by unfold sameName;rw [beq_iff_eq];exact name_eq
theorem same_no {a b:ByteArray} : sameName a b=false ↔ a≠b:=by rw [← Bool.not_eq_true,same_iff]
theorem atLeast_iff {a b:ByteArray} : atLeast a b=true ↔ ¬ nlt a b:=by unfold atLeast;rw [less_iff];simp
theorem upTo_no {a b:ByteArray} : upTo a b=false ↔ nlt b a:=by
 unfold upTo
 rw [less_iff,Bool.or_eq_false_iff,decide_eq_false_iff_not]
 constructor
 ·rintro ⟨h1,h2⟩
  rcases nlt_tri a b with h | h | h
  ·exact absurd h h1
  ·subst h;simp at h2
  ·exact h
 ·intro h
  exact ⟨nlt_asymm h,by simpa using fun e=>nlt_ne h (name_eq.1 e).symm⟩
def Row (fs:List FileD):Prop:=fs.Pairwise fun f g=>nlt f.name g.name
theorem Row.uniq {fs:List FileD} (h:Row fs) {f g:FileD} (hf:f ∈ fs) (hg:g ∈ fs) (e:f.name=g.name):f=g:=by
 induction fs with
 |nil=>cases hf
 |cons x fs ih =>
  obtain ⟨h1,h2⟩:=List.pairwise_cons.1 h
  rcases List.mem_cons.1 hf with e1 | hf'<;>rcases List.mem_cons.1 hg with e2 | hg'
  ·rw [e1,e2]
  ·exact absurd (h1 g hg') (by rw [← e1,e];exact nlt_irrefl _)
  ·exact absurd (h1 f hf') (by rw [← e2,e];exact nlt_irrefl _)
  ·exact ih h2 hf' hg'
theorem Row.ext {fs gs:List FileD} (h:Row fs) (g:Row gs) (e:∀ f,f ∈ fs ↔ f ∈ gs):fs=gs:=by
 induction fs generalizing gs with
 |nil=>cases gs with
  |nil=>rfl
  |cons y gs=>have:=(e y).2 (by simp);cases this
 |cons x fs ih=>cases gs with
  |nil=>have:=(e x).1 (by simp);cases this
  |cons y gs =>
   obtain ⟨h1,h2⟩:=List.pairwise_cons.1 h
   obtain ⟨g1,g2⟩:=List.pairwise_cons.1 g
   have hxy:x=y:=by
    rcases List.mem_cons.1 ((e x).1 (by simp)) with h3 | h3
    ·exact h3
    ·rcases List.mem_cons.1 ((e y).2 (by simp)) with h4 | h4
     ·exact h4.symm
     ·exact absurd (g1 x h3) (nlt_asymm (h1 y h4))
   subst hxy
   congr 1
   refine ih h2 g2 fun f=>⟨fun hf=>?_,fun hf=>?_⟩
   ·rcases List.mem_cons.1 ((e f).1 (by simp [hf])) with h3 | h3
    ·subst h3;exact absurd (h1 _ hf) (nlt_irrefl _)
    ·exact h3
   ·rcases List.mem_cons.1 ((e f).2 (by simp [hf])) with h3 | h3
    ·subst h3;exact absurd (g1 _ hf) (nlt_irrefl _)
    ·exact h3
theorem good_iff (p:Option ByteArray) (fs:List FileD):goodFrom p fs=true ↔ (∀ f ∈ fs,fileOk f=true)∧Row fs∧∀ q,p=some q→∀ f ∈ fs,nlt q f.name:=by
 induction fs generalizing p with
 |nil=>simp [goodFrom,Row]
 |cons f fs ih =>
  unfold goodFrom
  rw [Bool.and_eq_true,Bool.and_eq_true,ih]
  constructor
  ·rintro ⟨⟨h1,h2⟩,h3,h4,h5⟩
   refine ⟨?_,List.pairwise_cons.2 ⟨h5 f.name rfl,h4⟩,?_⟩
   ·intro g hg
    rcases List.mem_cons.1 hg with rfl | hg
    ·exact h1
    ·exact h3 g hg
   ·rintro q rfl g hg
    have hq:nlt q f.name:=upTo_no.1 (by simpa using h2)
    rcases List.mem_cons.1 hg with rfl | hg
    ·exact hq
    ·exact nlt_trans hq (h5 _ rfl g hg)
  ·rintro ⟨h1,h2,h3⟩
   obtain ⟨h4,h5⟩:=List.pairwise_cons.1 h2
   refine ⟨⟨h1 f (by simp),?_⟩,fun g hg=>h1 g (by simp [hg]),h5,?_⟩
   ·rcases p with _ | q
    ·rfl
    ·simpa using upTo_no.2 (h3 q rfl f (by simp))
   ·rintro q ⟨⟩ g hg
    exact h4 g hg
theorem right_iff (d:DiskD):rightB d=true ↔ (0≤d.room∧d.room≤65536) ∧ -1≤d.fuse∧d.files.length≤64∧(∀ f ∈ d.files,fileOk f=true)∧Row d.files∧(used d.files:Int)≤d.room:=by
 unfold rightB
 simp only [Bool.and_eq_true,decide_eq_true_eq,good_iff,reduceCtorEq,false_implies,implies_true,and_true,and_assoc]
theorem file_iff (f:FileD):fileOk f=true ↔ named f.name=true∧0≤f.sure∧f.sure≤(f.data.length:Int)∧f.data.length≤65536:=by
 unfold fileOk
 simp only [Bool.and_eq_true,decide_eq_true_eq,and_assoc]
theorem mem_sans {nm:ByteArray} {fs:List FileD} {g:FileD} : g ∈ sans nm fs ↔ g ∈ fs∧g.name≠nm:=by
 unfold sans
 rw [List.mem_filter]
 simp [same_no]
theorem row_sans {fs:List FileD} (nm:ByteArray) (h:Row fs):Row (sans nm fs):=List.Pairwise.filter _ h
def ahead (nm:ByteArray) (fs:List FileD):List FileD:=fs.filter fun g=>decide (nlt g.name nm)
def behind (nm:ByteArray) (fs:List FileD):List FileD:=fs.filter fun g=>decide (nlt nm g.name)
def called (nm:ByteArray) (fs:List FileD):List FileD:=fs.filter fun g=>sameName g.name nm
theorem ahead_cons (nm:ByteArray) (g:FileD) (fs:List FileD):ahead nm (g :: fs)=if nlt g.name nm then g :: ahead nm fs else ahead nm fs:=by unfold ahead;rw [List.filter_cons];simp
theorem called_cons (nm:ByteArray) (g:FileD) (fs:List FileD):called nm (g :: fs)=if g.name=nm then g :: called nm fs else called nm fs:=by unfold called;rw [List.filter_cons];simp [same_iff]
theorem behind_cons (nm:ByteArray) (g:FileD) (fs:List FileD):behind nm (g :: fs)=if nlt nm g.name then g :: behind nm fs else behind nm fs:=by unfold behind;rw [List.filter_cons];simp
theorem put_true (f:FileD) (fs:List FileD):putFrom f fs true=sans f.name fs:=by
 induction fs with
 |nil=>rfl
 |cons g fs ih =>
  rw [putFrom,Bool.true_or,ih]
  unfold sans
  rw [List.filter_cons]
  cases sameName g.name f.name<;>simp
theorem with_eq {fs:List FileD} (f:FileD) (h:Row fs):withF f fs=ahead f.name fs++[f]++behind f.name fs:=by
 unfold withF
 induction fs with
 |nil=>rfl
 |cons g fs ih =>
  obtain ⟨h1,h2⟩:=List.pairwise_cons.1 h
  rw [putFrom]
  by_cases hg:nlt g.name f.name
  ·have ha:atLeast g.name f.name=false:=by rw [← Bool.not_eq_true,atLeast_iff];simpa using hg
   have hs:sameName g.name f.name=false:=same_no.2 (nlt_ne hg)
   rw [ha,hs,Bool.false_or,ih h2]
   rw [ahead_cons,behind_cons,if_pos hg,if_neg (nlt_asymm hg)]
   simp
  ·have ha:atLeast g.name f.name=true:=atLeast_iff.2 hg
   rw [ha,Bool.false_or,put_true]
   have hall:∀ x ∈ fs,nlt f.name x.name:=fun x hx=>by
    rcases nlt_tri g.name f.name with h3 | h3 | h3
    ·exact absurd h3 hg
    ·rw [← h3];exact h1 x hx
    ·exact nlt_trans h3 (h1 x hx)
   have e1:sans f.name fs=fs:=by
    unfold sans
    rw [List.filter_eq_self]
    intro x hx
    simp [same_no.2 (nlt_ne (hall x hx)).symm]
   have e2:ahead f.name fs=[]:=by
    unfold ahead
    rw [List.filter_eq_nil_iff]
    intro x hx
    simpa using nlt_asymm (hall x hx)
   have e3:behind f.name fs=fs:=by
    unfold behind
    rw [List.filter_eq_self]
    intro x hx
    simpa using hall x hx
   have e4:ahead f.name (g :: fs)=[]:=by rw [ahead_cons,if_neg hg,e2]
   rw [e1,e4,behind_cons,e3]
   rcases nlt_tri g.name f.name with h3 | h3 | h3
   ·exact absurd h3 hg
   ·have hn:¬ nlt f.name g.name:=by rw [h3];exact nlt_irrefl _
    rw [if_neg hn,same_iff.2 h3];simp
   ·rw [same_no.2 (nlt_ne h3).symm,if_pos h3];simp
theorem mem_with {fs:List FileD} {f g:FileD} (h:Row fs):g ∈ withF f fs ↔ g=f∨(g ∈ fs∧g.name≠f.name):=by
 rw [with_eq f h]
 simp only [ahead,behind,List.mem_append,List.mem_filter,decide_eq_true_eq,List.mem_singleton]
 constructor
 ·rintro ((⟨h1,h2⟩ | rfl) | ⟨h1,h2⟩)
  ·exact .inr ⟨h1,nlt_ne h2⟩
  ·exact .inl rfl
  ·exact .inr ⟨h1,(nlt_ne h2).symm⟩
 ·rintro (rfl | ⟨h1,h2⟩)
  ·exact .inl (.inr rfl)
  ·rcases nlt_tri g.name f.name with h3 | h3 | h3
   ·exact .inl (.inl ⟨h1,h3⟩)
   ·exact absurd h3 h2
   ·exact .inr ⟨h1,h3⟩
theorem row_with {fs:List FileD} (f:FileD) (h:Row fs):Row (withF f fs):=by
 rw [with_eq f h]
 unfold Row
 rw [List.pairwise_append,List.pairwise_append]
 refine ⟨⟨List.Pairwise.filter _ h,List.pairwise_singleton _ _,?_⟩,List.Pairwise.filter _ h,?_⟩
 ·intro a ha b hb
  rw [List.mem_singleton] at hb
  subst hb
  simpa [ahead] using (List.mem_filter.1 ha).2
 ·intro a ha b hb
  have hb2:nlt f.name b.name:=by simpa [behind] using (List.mem_filter.1 hb).2
  rcases List.mem_append.1 ha with ha | ha
  ·exact nlt_trans (by simpa [ahead] using (List.mem_filter.1 ha).2) hb2
  ·rw [List.mem_singleton] at ha
   subst ha
   exact hb2
theorem used_cons (f:FileD) (fs:List FileD):used (f :: fs)=f.data.length+used fs:=by simp [used]
theorem used_append (fs gs:List FileD):used (fs++gs)=used fs+used gs:=by simp [used]
theorem three (nm:ByteArray) (fs:List FileD):used fs=used (ahead nm fs)+used (called nm fs)+used (behind nm fs)∧fs.length=(ahead nm fs).length+(called nm fs).length+(behind nm fs).length:=by
 induction fs with
 |nil=>exact ⟨rfl,rfl⟩
 |cons g fs ih =>
  obtain ⟨i1,i2⟩:=ih
  rw [used_cons,List.length_cons,ahead_cons,called_cons,behind_cons]
  rcases nlt_tri g.name nm with h | h | h
  ·rw [if_pos h,if_neg (nlt_ne h),if_neg (nlt_asymm h),used_cons,List.length_cons];omega
  ·rw [if_neg (by rw [h];exact nlt_irrefl _),if_pos h,if_neg (by rw [h];exact nlt_irrefl _),used_cons,List.length_cons];omega
  ·rw [if_neg (nlt_asymm h),if_neg (nlt_ne h).symm,if_pos h,used_cons,List.length_cons];omega
theorem called_none {nm:ByteArray} {fs:List FileD} (h:∀ g ∈ fs,g.name≠nm):called nm fs=[]:=by
 unfold called
 rw [List.filter_eq_nil_iff]
 intro x hx
 rw [same_iff]
 exact h x hx
theorem called_one {fs:List FileD} {g:FileD} (h:Row fs) (hg:g ∈ fs):called g.name fs=[g]:=by
 refine Row.ext (List.Pairwise.filter _ h) (List.pairwise_singleton _ _) fun f=>?_
 unfold called
 rw [List.mem_filter,same_iff,List.mem_singleton]
 exact ⟨fun ⟨h1,h2⟩=>h.uniq h1 hg h2,fun e=>by subst e;exact ⟨hg,rfl⟩⟩
theorem with_new {fs:List FileD} (f:FileD) (h:Row fs) (hn:∀ g ∈ fs,g.name≠f.name):used (withF f fs)=used fs+f.data.length∧(withF f fs).length=fs.length+1:=by
 obtain ⟨t1,t2⟩:=three f.name fs
 rw [called_none hn] at t1 t2
 rw [with_eq f h,used_append,used_append,List.length_append,List.length_append,used_cons]
 simp only [used,List.map_nil,List.sum_nil,List.length_nil,List.length_singleton] at t1 t2 ⊢
 omega
theorem with_old {fs:List FileD} (f g:FileD) (h:Row fs) (hg:g ∈ fs) (e:g.name=f.name):used (withF f fs)+g.data.length=used fs+f.data.length∧(withF f fs).length=fs.length:=by
 obtain ⟨t1,t2⟩:=three f.name fs
 rw [← e,called_one h hg,e] at t1 t2
 rw [with_eq f h,used_append,used_append,List.length_append,List.length_append,used_cons]
 rw [used_cons] at t1
 simp only [used,List.map_nil,List.sum_nil,List.length_singleton] at t1 t2 ⊢
 omega
theorem used_filter (p:FileD→Bool) (fs:List FileD):used (fs.filter p)≤used fs:=by
 induction fs with
 |nil=>exact Nat.le_refl _
 |cons g fs ih =>
  rw [List.filter_cons]
  split<;>simp only [used_cons]<;>omega
theorem used_sans (nm:ByteArray) (fs:List FileD):used (sans nm fs)≤used fs:=used_filter _ _
theorem sans_length (nm:ByteArray) (fs:List FileD):(sans nm fs).length≤fs.length:=List.length_filter_le _ _
theorem used_mem {fs:List FileD} {f:FileD} (h:f ∈ fs):f.data.length≤used fs:=by
 induction fs with
 |nil=>cases h
 |cons g fs ih =>
  rw [used_cons]
  rcases List.mem_cons.1 h with rfl | h
  ·omega
  ·have:=ih h;omega
def look (nm:ByteArray) (fs:List FileD):Option FileD:=fs.find? fun f=>sameName f.name nm
theorem look_some {nm:ByteArray} {fs:List FileD} {f:FileD} (h:look nm fs=some f):f ∈ fs∧f.name=nm :=
 ⟨List.mem_of_find?_eq_some h,same_iff.1 (by simpa using List.find?_some h)⟩
theorem look_none {nm:ByteArray} {fs:List FileD} (h:look nm fs=none):∀ g ∈ fs,g.name≠nm:=fun g hg=>by
 have:=List.find?_eq_none.1 h g hg
 rw [same_iff] at this
 exact this
theorem look_of {fs:List FileD} {f:FileD} (h:Row fs) (hf:f ∈ fs):look f.name fs=some f:=by
 cases e:look f.name fs with
 |none=>exact absurd rfl (look_none e f hf)
 |some g=>obtain ⟨h1,h2⟩:=look_some e;rw [h.uniq h1 hf h2]
theorem look_no {nm:ByteArray} {fs:List FileD} (h:∀ g ∈ fs,g.name≠nm):look nm fs=none:=by
 cases e:look nm fs with
 |none=>rfl
 |some g=>obtain ⟨h1,h2⟩:=look_some e;exact absurd h2 (h g h1)
def opD (d:DiskD) (a b:ByteArray) (pre:Int) (fs:List FileD) (app:Bool):DiskD × Int :=
 if firstE d a b≠0 then (d,firstE d a b)
 else if pre≠0 then (d,pre)
 else if d.fuse=0 then (⟨if app then fs else d.files,d.room,d.fuse,true⟩,9)
 else (⟨fs,d.room,if 0 < d.fuse then d.fuse - 1 else d.fuse,d.down⟩,0)
def oldOf (nm:ByteArray) (fs:List FileD):FileD:=(look nm fs).getD ⟨nm,[],0⟩
def appE (d:DiskD) (nm:ByteArray) (b:List Nat):Int:=if d.room < (used d.files+b.length:Nat)∨(look nm d.files=none∧64≤d.files.length) then 6 else 0
def appF (fs:List FileD) (nm:ByteArray) (b:List Nat):List FileD:=withF { oldOf nm fs with data:=(oldOf nm fs).data++b } fs
def noE (fs:List FileD) (nm:ByteArray):Int:=if look nm fs=none then 7 else 0
def syncF (fs:List FileD) (nm:ByteArray):List FileD:=withF { oldOf nm fs with sure:=((oldOf nm fs).data.length:Nat) } fs
def cutE (fs:List FileD) (nm:ByteArray) (n:Int):Int:=if look nm fs=none then 7 else if n < 0∨((oldOf nm fs).data.length:Int) < n then 1 else 0
def cutF (fs:List FileD) (nm:ByteArray) (n:Int):List FileD:=withF { oldOf nm fs with data:=(oldOf nm fs).data.take n.toNat,sure:=if n < (oldOf nm fs).sure then n else (oldOf nm fs).sure } fs
def appendD (d:DiskD) (nm:ByteArray) (b:List Nat):DiskD × Int:=opD d nm nm (appE d nm b) (appF d.files nm b) true
def syncD (d:DiskD) (nm:ByteArray):DiskD × Int:=opD d nm nm (noE d.files nm) (syncF d.files nm) false
def removeD (d:DiskD) (nm:ByteArray):DiskD × Int:=opD d nm nm (noE d.files nm) (sans nm d.files) false
def cutD (d:DiskD) (nm:ByteArray) (n:Int):DiskD × Int:=opD d nm nm (cutE d.files nm n) (cutF d.files nm n) false
def leftOf (keep:List Int) (i:Nat) (f:FileD):Nat:=min (max (if keep.length=0 then 0 else keep.getD (i % keep.length) 0) 0).toNat (f.data.length - f.sure.toNat)
def keptOf (keep:List Int) (i:Nat) (f:FileD):FileD:={ f with data:=f.data.take (f.sure.toNat+leftOf keep i f),sure:=f.sure+(leftOf keep i f:Nat) }
def backF (keep:List Int) (fs:List FileD):List FileD:=fs.mapIdx (keptOf keep)
def backD (d:DiskD) (keep:List Int) (fuse:Int):DiskD × Int:=if rightB d=true ∧ -1≤fuse then (⟨backF keep d.files,d.room,fuse,false⟩,0) else (d,1)
end Go.Proofs.YtalhdalinpdanaaGreatDoor.disk
end
section
namespace Go.Proofs.YtalhdalinpdanaaGreatDoor.disk
set_option maxRecDepth 20000
open Go.RowKit
theorem old_cases (nm:ByteArray) (fs:List FileD):(look nm fs=none∧oldOf nm fs=⟨nm,[],0⟩)∨∃ f,look nm fs=some f∧oldOf nm fs=f∧f ∈ fs∧f.name=nm:=by
 unfold oldOf
 cases e:look nm fs with
 |none=>exact .inl ⟨rfl,rfl⟩
 |some f=>exact .inr ⟨f,rfl,rfl,(look_some e).1,(look_some e).2⟩
theorem old_name (nm:ByteArray) (fs:List FileD):(oldOf nm fs).name=nm:=by
 rcases old_cases nm fs with ⟨_,h⟩ | ⟨f,_,h,_,h2⟩<;>rw [h]
 exact h2
theorem first_zero {d:DiskD} {a b:ByteArray} : firstE d a b=0 ↔ rightB d=true∧d.down=false∧named a=true∧named b=true:=by
 unfold firstE
 cases rightB d<;>cases d.down<;>cases named a<;>cases named b<;>simp
theorem first_up {d:DiskD} {a b:ByteArray} (h:rightB d=true) (h2:d.down=false):firstE d a b=if named a && named b then 0 else 1:=by unfold firstE;rw [h,h2];simp
theorem op_cases (d:DiskD) (a b:ByteArray) (pre:Int) (fs:List FileD) (app:Bool) :
  (firstE d a b≠0∧opD d a b pre fs app=(d,firstE d a b))∨(firstE d a b=0∧pre≠0∧opD d a b pre fs app=(d,pre)) ∨
  (firstE d a b=0∧pre=0∧d.fuse=0∧opD d a b pre fs app=(⟨if app then fs else d.files,d.room,0,true⟩,9)) ∨
  (firstE d a b=0∧pre=0∧d.fuse≠0∧opD d a b pre fs app=(⟨fs,d.room,if 0 < d.fuse then d.fuse - 1 else d.fuse,d.down⟩,0)):=by
 unfold opD
 by_cases h1:firstE d a b=0
 ·rw [if_neg (by simpa using h1)]
  by_cases h2:pre=0
  ·rw [if_neg (by simpa using h2)]
   by_cases h3:d.fuse=0
   ·rw [if_pos h3,h3];exact .inr (.inr (.inl ⟨h1,h2,rfl,rfl⟩))
   ·rw [if_neg h3];exact .inr (.inr (.inr ⟨h1,h2,h3,rfl⟩))
  ·rw [if_pos h2];exact .inr (.inl ⟨h1,h2,rfl⟩)
 ·rw [if_pos h1];exact .inl ⟨h1,rfl⟩
def FilesOk (room:Int) (fs:List FileD):Prop:=fs.length≤64∧(∀ f ∈ fs,fileOk f=true)∧Row fs∧(used fs:Int)≤room
theorem right_files {d:DiskD} (h:rightB d=true):FilesOk d.room d.files:=by
 obtain ⟨_,_,h1,h2,h3,h4⟩:=(right_iff d).1 h
 exact ⟨h1,h2,h3,h4⟩
theorem right_op {d:DiskD} {a b:ByteArray} {pre:Int} {fs:List FileD} {app:Bool} (h:rightB d=true) (hf:firstE d a b=0→pre=0→FilesOk d.room fs):rightB (opD d a b pre fs app).1=true:=by
 obtain ⟨r1,r2,r3⟩:=(right_iff d).1 h
 rcases op_cases d a b pre fs app with ⟨_,e⟩ | ⟨_,_,e⟩ | ⟨h1,h2,_,e⟩ | ⟨h1,h2,h3,e⟩<;>rw [e]
 ·exact h
 ·exact h
 ·rw [right_iff]
  refine ⟨r1,by simp,?_⟩
  cases app
  ·exact r3
  ·exact hf h1 h2
 ·rw [right_iff]
  refine ⟨r1,?_,hf h1 h2⟩
  show -1≤if 0 < d.fuse then d.fuse - 1 else d.fuse
  split<;>omega
theorem ok_with {room:Int} {fs:List FileD} {f:FileD} (h:FilesOk room fs) (hf:fileOk f=true)
  (hn:look f.name fs=none→fs.length < 64∧(used fs+f.data.length:Nat)≤room) (ho:∀ g,look f.name fs=some g→(used fs+f.data.length:Nat)≤room+g.data.length):FilesOk room (withF f fs):=by
 obtain ⟨h1,h2,h3,h4⟩:=h
 refine ⟨?_,?_,row_with f h3,?_⟩
 ·cases e:look f.name fs with
  |none=>rw [(with_new f h3 (look_none e)).2];have:=(hn e).1;omega
  |some g=>rw [(with_old f g h3 (look_some e).1 (look_some e).2).2];exact h1
 ·intro g hg
  rcases (mem_with h3).1 hg with rfl | ⟨hg,_⟩
  ·exact hf
  ·exact h2 g hg
 ·cases e:look f.name fs with
  |none=>rw [(with_new f h3 (look_none e)).1];exact (hn e).2
  |some g=>have h5:=(with_old f g h3 (look_some e).1 (look_some e).2).1;have h6:=ho g e;omega
theorem ok_sans {room:Int} {fs:List FileD} (nm:ByteArray) (h:FilesOk room fs):FilesOk room (sans nm fs):=by
 obtain ⟨h1,h2,h3,h4⟩:=h
 exact ⟨Nat.le_trans (sans_length _ _) h1,fun g hg=>h2 g (mem_sans.1 hg).1,row_sans nm h3,by have:=used_sans nm fs;omega⟩
theorem app_zero {d:DiskD} {nm:ByteArray} {b:List Nat} (h:appE d nm b=0):(used d.files+b.length:Nat)≤d.room∧(look nm d.files=none→d.files.length < 64):=by
 unfold appE at h
 split at h
 ·cases h
 ·rename_i hn
  rw [not_or] at hn
  exact ⟨by omega,fun e=>by have:=hn.2;rw [not_and] at this;have:=this e;omega⟩
theorem right_append {d:DiskD} {nm:ByteArray} {b:List Nat} (h:rightB d=true):rightB (appendD d nm b).1=true:=by
 refine right_op h fun h1 h2=>?_
 obtain ⟨a1,a2⟩:=app_zero h2
 obtain ⟨_,_,hnm,_⟩:=first_zero.1 h1
 have hr:=(right_iff d).1 h
 have hf:=right_files h
 unfold appF
 rcases old_cases nm d.files with ⟨e1,e2⟩ | ⟨f,e1,e2,e3,e4⟩
 ·rw [e2]
  refine ok_with hf ?_ (fun _=>⟨a2 e1,by simpa using a1⟩) (fun g hg=>by rw [e1] at hg;cases hg)
  rw [file_iff]
  exact ⟨hnm,by simp,by simp<;>omega,by simp<;>omega⟩
 ·rw [e2]
  have hfo:=(file_iff f).1 (hf.2.1 f e3)
  have hl:f.data.length≤used d.files:=used_mem e3
  refine ok_with hf ?_ (fun e=>by rw [e4,e1] at e;cases e) (fun g hg=>?_)
  ·rw [file_iff]
   refine ⟨by rw [e4];exact hnm,hfo.2.1,?_,?_⟩<;>simp only [List.length_append]<;>omega
  ·rw [e4,e1] at hg
   injection hg with hg
   subst hg
   simp only [List.length_append]
   omega
theorem no_zero {fs:List FileD} {nm:ByteArray} (h:noE fs nm=0):∃ f,look nm fs=some f∧oldOf nm fs=f∧f ∈ fs∧f.name=nm:=by
 rcases old_cases nm fs with ⟨e,_⟩ | h2
 ·unfold noE at h;rw [if_pos e] at h;cases h
 ·exact h2
theorem right_sync {d:DiskD} {nm:ByteArray} (h:rightB d=true):rightB (syncD d nm).1=true:=by
 refine right_op h fun h1 h2=>?_
 obtain ⟨f,e1,e2,e3,e4⟩:=no_zero h2
 have hf:=right_files h
 have hfo:=(file_iff f).1 (hf.2.1 f e3)
 unfold syncF
 rw [e2]
 refine ok_with hf ?_ (fun e=>by rw [e4,e1] at e;cases e) (fun g hg=>?_)
 ·rw [file_iff]
  exact ⟨hfo.1,by simp,by simp,hfo.2.2.2⟩
 ·rw [e4,e1] at hg
  injection hg with hg
  subst hg
  have:=hf.2.2.2
  show ((used d.files+f.data.length:Nat):Int)≤d.room+f.data.length
  omega
theorem right_remove {d:DiskD} {nm:ByteArray} (h:rightB d=true):rightB (removeD d nm).1=true:=right_op h fun _ _=>ok_sans nm (right_files h)
theorem cut_zero {fs:List FileD} {nm:ByteArray} {n:Int} (h:cutE fs nm n=0):∃ f,look nm fs=some f∧oldOf nm fs=f∧f ∈ fs∧f.name=nm∧0≤n∧n≤(f.data.length:Int):=by
 rcases old_cases nm fs with ⟨e,_⟩ | ⟨f,h1,h2,h3,h4⟩
 ·unfold cutE at h;rw [if_pos e] at h;cases h
 ·unfold cutE at h
  rw [h2,if_neg (by rw [h1];simp)] at h
  split at h
  ·cases h
  ·rename_i hn
   exact ⟨f,h1,h2,h3,h4,by omega,by omega⟩
theorem right_cut {d:DiskD} {nm:ByteArray} {n:Int} (h:rightB d=true):rightB (cutD d nm n).1=true:=by
 refine right_op h fun h1 h2=>?_
 obtain ⟨f,e1,e2,e3,e4,e5,e6⟩:=cut_zero h2
 have hf:=right_files h
 have hfo:=(file_iff f).1 (hf.2.1 f e3)
 have hu:=hf.2.2.2
 unfold cutF
 rw [e2]
 refine ok_with hf ?_ (fun e=>by rw [e4,e1] at e;cases e) (fun g hg=>?_)
 ·rw [file_iff]
  refine ⟨hfo.1,?_,?_,?_⟩
  ·show 0≤if n < f.sure then n else f.sure
   split<;>omega
  ·show (if n < f.sure then n else f.sure)≤((f.data.take n.toNat).length:Int)
   rw [List.length_take]
   split<;>omega
  ·show (f.data.take n.toNat).length≤65536
   rw [List.length_take];omega
 ·rw [e4,e1] at hg
  injection hg with hg
  subst hg
  show ((used d.files+(f.data.take n.toNat).length:Nat):Int)≤d.room+f.data.length
  rw [List.length_take];omega
theorem kept_ok {keep:List Int} {i:Nat} {f:FileD} (h:fileOk f=true):fileOk (keptOf keep i f)=true∧(keptOf keep i f).name=f.name∧((keptOf keep i f).data.length:Int)=(keptOf keep i f).sure ∧
  (keptOf keep i f).data <+: f.data∧f.data.take f.sure.toNat <+: (keptOf keep i f).data∧(keptOf keep i f).data.length≤f.data.length:=by
 obtain ⟨h1,h2,h3,h4⟩:=(file_iff f).1 h
 obtain ⟨l,hl⟩:∃ l,leftOf keep i f=l:=⟨_,rfl⟩
 have hle:l≤f.data.length - f.sure.toNat:=by rw [← hl];exact Nat.min_le_right _ _
 have hlen:(f.data.take (f.sure.toNat+l)).length=f.sure.toNat+l:=by rw [List.length_take];omega
 unfold keptOf
 rw [file_iff,hl]
 refine ⟨⟨h1,?_,?_,?_⟩,rfl,?_,List.take_prefix _ _,?_,?_⟩
 ·show 0≤f.sure+(l:Nat);omega
 ·show f.sure+(l:Nat)≤((f.data.take (f.sure.toNat+l)).length:Int);rw [hlen];omega
 ·show (f.data.take (f.sure.toNat+l)).length≤65536;rw [hlen];omega
 ·show ((f.data.take (f.sure.toNat+l)).length:Int)=f.sure+(l:Nat);rw [hlen];omega
 ·show f.data.take f.sure.toNat <+: f.data.take (f.sure.toNat+l)
  exact List.prefix_take_iff.2 ⟨List.take_prefix _ _,by rw [List.length_take];omega⟩
 ·show (f.data.take (f.sure.toNat+l)).length≤f.data.length;rw [hlen];omega
theorem back_get (keep:List Int) (fs:List FileD) (i:Nat):(backF keep fs)[i]?=(fs[i]?).map (keptOf keep i):=by unfold backF;rw [List.getElem?_mapIdx]
theorem back_len (keep:List Int) (fs:List FileD):(backF keep fs).length=fs.length:=by unfold backF;simp
theorem mem_back {keep:List Int} {fs:List FileD} {g:FileD} (h:g ∈ backF keep fs):∃ i f,fs[i]?=some f∧f ∈ fs∧g=keptOf keep i f:=by
 obtain ⟨i,hi⟩:=List.getElem?_of_mem h
 rw [back_get,Option.map_eq_some_iff] at hi
 obtain ⟨f,hf,e⟩:=hi
 exact ⟨i,f,hf,List.mem_of_getElem? hf,e.symm⟩
theorem back_names (keep:List Int) (fs:List FileD):(backF keep fs).map (·.name)=fs.map (·.name):=by
 refine List.ext_getElem? fun i=>?_
 rw [List.getElem?_map,List.getElem?_map,back_get]
 cases fs[i]?<;>rfl
theorem row_names (fs:List FileD):Row fs ↔ (fs.map (·.name)).Pairwise nlt:=by unfold Row;rw [List.pairwise_map]
theorem used_mapIdx (fs:List FileD) (p:Nat→FileD→FileD) (h:∀ i,∀ f ∈ fs,(p i f).data.length≤f.data.length):used (fs.mapIdx p)≤used fs:=by
 induction fs generalizing p with
 |nil=>simp [used]
 |cons f fs ih =>
  rw [List.mapIdx_cons,used_cons,used_cons]
  have h1:=h 0 f (by simp)
  have h2:=ih (fun i=>p (i+1)) (fun i g hg=>h (i+1) g (by simp [hg]))
  omega
theorem ok_back {room:Int} {fs:List FileD} (keep:List Int) (h:FilesOk room fs):FilesOk room (backF keep fs):=by
 obtain ⟨h1,h2,h3,h4⟩:=h
 refine ⟨by rw [back_len];exact h1,fun g hg=>?_,?_,?_⟩
 ·obtain ⟨i,f,_,hf,rfl⟩:=mem_back hg
  exact (kept_ok (h2 f hf)).1
 ·rw [row_names,back_names,← row_names];exact h3
 ·have:=used_mapIdx fs (keptOf keep) (fun i f hf=>(kept_ok (keep:=keep) (i:=i) (h2 f hf)).2.2.2.2.2)
  unfold backF
  omega
theorem right_back {d:DiskD} {keep:List Int} {fuse:Int} (h:rightB d=true):rightB (backD d keep fuse).1=true:=by
 unfold backD
 split
 ·rename_i h2
  obtain ⟨r1,_,_⟩:=(right_iff d).1 h
  rw [right_iff]
  exact ⟨r1,h2.2,ok_back keep (right_files h)⟩
 ·exact h
theorem kept_again {keep:List Int} {i:Nat} {f:FileD} (h:(f.data.length:Int)=f.sure):keptOf keep i f=f:=by
 have h0:leftOf keep i f=0:=by unfold leftOf;omega
 unfold keptOf
 rw [h0,show f.sure.toNat+0=f.data.length by omega,List.take_length]
 simp
theorem back_again {fs:List FileD} (keep:List Int) (h:∀ f ∈ fs,(f.data.length:Int)=f.sure):backF keep fs=fs:=by
 refine List.ext_getElem? fun i=>?_
 rw [back_get]
 cases e:fs[i]? with
 |none=>rfl
 |some f=>rw [Option.map_some,kept_again (h f (List.mem_of_getElem? e))]
def Has (fs:List FileD) (nm:ByteArray) (was:List Nat):Prop := ∃ f ∈ fs,f.name=nm∧was <+: f.data∧(was.length:Int)≤f.sure
end Go.Proofs.YtalhdalinpdanaaGreatDoor.disk
end
section
namespace Go.Proofs.YtalhdalinpdanaaGreatDoor.wal
set_option maxRecDepth 20000
open Go.Proofs.YtalhdalinpdanaaGreatDoor Go.Proofs.YtalhdalinpdanaaGreatDoor.frame Go.Proofs.YtalhdalinpdanaaGreatDoor.disk
def dg:Nat→Nat→List Nat
 | 0,_=>[]
 |k+1,n=>dg k (n / 10)++[48+n % 10]
def nameL (n:Nat):List Nat:=[108,111,103,46]++dg 10 n
def bytes (l:List Nat):ByteArray:=⟨(l.map Nat.toUInt8).toArray⟩
def nameOf (n:Int):ByteArray:=bytes (nameL n.toNat)
def digit (c:Nat):Bool:=decide (48≤c) && decide (c≤57)
def value (l:List Nat):Nat:=l.foldl (fun a c=>a * 10+(c - 48)) 0
def numL (l:List Nat):Nat:=if l.length=14∧l.take 4=[108,111,103,46]∧(l.drop 4).all digit=true∧value (l.drop 4)≤1000000000 then value (l.drop 4) else 0
def listOf (s:ByteArray):List Nat:=s.data.toList.map UInt8.toNat
def numOf (s:ByteArray):Int:=numL (listOf s)
theorem dg_len (k n:Nat):(dg k n).length=k:=by
 induction k generalizing n with
 |zero=>rfl
 |succ k ih=>simp [dg,ih]
theorem dg_digit (k n:Nat):(dg k n).all digit=true:=by
 induction k generalizing n with
 |zero=>rfl
 |succ k ih =>
  rw [dg,List.all_append,ih,Bool.true_and]
  have:=Nat.mod_lt n (show 0 < 10 by decide)
  simp [digit];omega
theorem value_snoc (l:List Nat) (c:Nat):value (l++[c])=value l * 10+(c - 48):=by simp [value]
theorem dg_value (k n:Nat):value (dg k n)=n % 10 ^ k:=by
 induction k generalizing n with
 |zero=>simp [dg,value,Nat.mod_one]
 |succ k ih =>
  rw [dg,value_snoc,ih]
  have h1:=Nat.div_add_mod n 10
  have h2:=Nat.div_add_mod (n / 10) (10 ^ k)
  have h3:n % 10 ^ (k+1)=(n / 10 % 10 ^ k) * 10+n % 10:=by
   rw [Nat.pow_succ,Nat.mul_comm (10 ^ k) 10,Nat.mod_mul]
   omega
  rw [h3];omega
theorem value_dg:∀ (l:List Nat),l.all digit=true→dg l.length (value l)=l∧value l < 10 ^ l.length:=by
 intro l
 induction hl:l.length generalizing l with
 |zero=>intro _;obtain rfl:=List.eq_nil_of_length_eq_zero hl;exact ⟨rfl,by simp [value]⟩
 |succ k ih =>
  intro h
  obtain ⟨m,c,rfl⟩:∃ m c,l=m++[c]:=⟨l.dropLast,l.getLast (by intro e;rw [e] at hl;cases hl),(List.dropLast_concat_getLast _).symm⟩
  have hm:m.length=k:=by simpa using hl
  rw [List.all_append,Bool.and_eq_true] at h
  obtain ⟨h1,h2⟩:=ih m hm h.1
  have hc:48≤c∧c≤57:=by have:=h.2;simp [digit] at this;exact this
  rw [value_snoc]
  refine ⟨?_,?_⟩
  ·have e1:(value m * 10+(c - 48)) / 10=value m:=by omega
   have e2:(value m * 10+(c - 48)) % 10=c - 48:=by omega
   rw [dg,e1,e2,h1,show 48+(c - 48)=c by omega]
  ·rw [Nat.pow_succ];omega
theorem nameL_len (n:Nat):(nameL n).length=14:=by simp [nameL,dg_len]
theorem numL_name {n:Nat} (h:n≤1000000000):numL (nameL n)=n:=by
 have e:value (dg 10 n)=n:=by rw [dg_value,Nat.mod_eq_of_lt (by omega)]
 have hd:(nameL n).drop 4=dg 10 n:=rfl
 unfold numL
 rw [hd,e,if_pos ⟨nameL_len n,rfl,dg_digit 10 n,h⟩]
theorem numL_is {l:List Nat} (h:0 < numL l):l=nameL (numL l)∧numL l≤1000000000:=by
 unfold numL at h ⊢
 split at h
 ·rename_i g
  rw [if_pos g]
  obtain ⟨h1,h2,h3,h4⟩:=g
  refine ⟨?_,h4⟩
  have:=(value_dg (l.drop 4) h3).1
  rw [List.length_drop,h1] at this
  unfold nameL
  rw [this,← h2,List.take_append_drop]
 ·cases h
theorem listOf_bytes {l:List Nat} (h:∀ x ∈ l,x < 256):listOf (bytes l)=l:=by
 unfold listOf bytes
 simp only [List.map_map]
 exact (List.map_congr_left fun x hx=>by simp [Nat.toUInt8,UInt8.toNat_ofNat,Nat.mod_eq_of_lt (h x hx)]).trans (List.map_id _)
theorem bytes_listOf (s:ByteArray):bytes (listOf s)=s:=by
 obtain ⟨⟨l⟩⟩:=s
 unfold bytes listOf
 simp only [List.map_map]
 have e:l.map (Nat.toUInt8 ∘ UInt8.toNat)=l:=(List.map_congr_left fun x _=>by simp [Nat.toUInt8]).trans (List.map_id _)
 rw [e]
theorem nameL_small (n:Nat):∀ x ∈ nameL n,x < 256:=fun x hx=>by
 unfold nameL at hx
 rcases List.mem_append.1 hx with hx | hx
 ·simp at hx;omega
 ·have:=List.all_eq_true.1 (dg_digit 10 n) x hx
  simp [digit] at this;omega
theorem numOf_name {n:Int} (h0:0≤n) (h:n≤1000000000):numOf (nameOf n)=n:=by
 unfold numOf nameOf
 rw [listOf_bytes (nameL_small _),numL_name (by omega)]
 omega
theorem numOf_is {s:ByteArray} (h:0 < numOf s):s=nameOf (numOf s)∧numOf s≤1000000000:=by
 unfold numOf at h ⊢
 obtain ⟨h1,h2⟩:=numL_is (l:=listOf s) (by omega)
 refine ⟨?_,by omega⟩
 unfold nameOf
 rw [Int.toNat_natCast,← h1,bytes_listOf]
theorem name_inj {a b:Int} (ha:0≤a∧a≤1000000000) (hb:0≤b∧b≤1000000000) (h:nameOf a=nameOf b):a=b:=by
 rw [← numOf_name ha.1 ha.2,h,numOf_name hb.1 hb.2]
structure Wl where
 (e n u g c:Int) (ws:List Fr)
 deriving DecidableEq
def wz:Wl:=⟨0,0,0,0,0,[]⟩
def segs (d:DiskD):List Int:=if rightB d=true then (d.files.map fun f=>numOf f.name).filter fun n=>decide (0 < n) else []
def right (w:Wl):Bool :=
 decide (1≤w.e∧w.e≤1000000∧1≤w.n∧w.n≤1000000001∧0≤w.u∧w.u≤w.n - 1∧w.ws.length≤32∧(w.ws.length:Int)=w.n - w.u - 1) && scan.row w.ws (w.u+1) 0 && w.ws.all (fun f=>decide (f.e=w.e)) &&
  decide ((w.g=0∧w.c=0)∨(1≤w.g∧w.g≤1000000001∧1≤w.c∧w.c≤8∧w.g+w.c=w.u+1))
def putW (w:Wl) (k b0 b1 b2 b3 b4 b5:Int):Wl × Int :=
 if right w=false∨k < 1∨6 < k then (w,1) else if 1000000000 < w.n then (w,3) else if 32≤w.ws.length then (w,6)
 else ({ w with ws:=w.ws++[⟨w.e,w.n,k,b0,b1,b2,b3,b4,b5⟩],n:=w.n+1 },0)
def begun (w:Wl):Wl:=if w.g=0∨w.c=8 then { w with g:=w.u+1,c:=0 } else w
def room (w:Wl):Nat:=min w.ws.length (8 - (begun w).c).toNat
def stepW (w:Wl):Wl:={ begun w with c:=(begun w).c+room w,u:=w.u+room w,ws:=w.ws.drop (room w) }
end Go.Proofs.YtalhdalinpdanaaGreatDoor.wal
end
