/-
  DiskOps, DiskMath, Cut
-/
import Derived.Test.YtcpahggkioagkaaMvf09
import Derived.Test.YtcpahggkioagkaaMvf02
import Derived.Test.YtcpahggkioagkaaMvf04
set_option linter.unusedVariables false
set_option linter.unusedSimpArgs false
section
namespace Go.Proofs.Ytcpahggkioagkaa.disk
set_option maxRecDepth 20000
open Go.RowKit
abbrev nlt (a b:ByteArray):Prop:=a.toList < b.toList
theorem less_iff:∀ (x y:List UInt8),Op.bytesLess x y=decide (x < y)
 | [],[]=>by simp [Op.bytesLess]
 | _ :: _,[]=>by simp [Op.bytesLess]
 | [],_ :: _=>by simp [Op.bytesLess]
 |a :: x,b :: y=>by
  rw [Op.bytesLess,less_iff x y]
  simp only [List.cons_lt_cons_iff]
  by_cases h1:a < b<;>by_cases h2:a=b<;>by_cases h3:x < y<;>simp [h1,h2,h3]
theorem nlt_irrefl (a:ByteArray):¬ nlt a a:=List.lt_irrefl _
theorem nlt_trans {a b c:ByteArray} (h:nlt a b) (g:nlt b c):nlt a c:=List.lt_trans h g
theorem nlt_asymm {a b:ByteArray} (h:nlt a b):¬ nlt b a:=fun g=>nlt_irrefl a (nlt_trans h g)
theorem name_eq {a b:ByteArray} : a.toList=b.toList ↔ a=b:=by
 rw [ByteArray.toList_eq,ByteArray.toList_eq]
 constructor
 ·intro h
  obtain ⟨⟨a⟩⟩:=a
  obtain ⟨⟨b⟩⟩:=b
  simp at h
  rw [h]
 ·intro h;rw [h]
theorem nlt_tri (a b:ByteArray):nlt a b∨a=b∨nlt b a:=by
 by_cases h:nlt a b
 ·exact .inl h
 ·by_cases g:nlt b a
  ·exact .inr (.inr g)
  ·exact .inr (.inl (name_eq.1 (List.le_antisymm g h)))
theorem nlt_ne {a b:ByteArray} (h:nlt a b):a≠b:=fun e=>nlt_irrefl b (e▸h)
theorem same_iff {a b:ByteArray} : sameName a b=true ↔ a=b:=by unfold sameName;rw [beq_iff_eq];exact name_eq
theorem upTo_no {a b:ByteArray} : upTo a b=false ↔ nlt b a:=by
 unfold upTo
 rw [less_iff,Bool.or_eq_false_iff,decide_eq_false_iff_not]
 constructor
 ·rintro ⟨h1,h2⟩
  rcases nlt_tri a b with h | h | h
  ·exact absurd h h1
  ·subst h;simp at h2
  ·exact h
 ·intro h
  exact ⟨nlt_asymm h,by simpa using fun e=>nlt_ne h (name_eq.1 e).symm⟩
def Row (fs:List FileD):Prop:=fs.Pairwise fun f g=>nlt f.name g.name
theorem Row.ext {fs gs:List FileD} (h:Row fs) (g:Row gs) (e:∀ f,f ∈ fs ↔ f ∈ gs):fs=gs:=by
 induction fs generalizing gs with
 |nil=>cases gs with
  |nil=>rfl
  |cons y gs=>have:=(e y).2 (by simp);cases this
 |cons x fs ih=>cases gs with
  |nil=>have:=(e x).1 (by simp);cases this
  |cons y gs =>
   obtain ⟨h1,h2⟩:=List.pairwise_cons.1 h
   obtain ⟨g1,g2⟩:=List.pairwise_cons.1 g
   have hxy:x=y:=by
    rcases List.mem_cons.1 ((e x).1 (by simp)) with h3 | h3
    ·exact h3
    ·rcases List.mem_cons.1 ((e y).2 (by simp)) with h4 | h4
     ·exact h4.symm
     ·exact absurd (g1 x h3) (nlt_asymm (h1 y h4))
   subst hxy
   congr 1
   refine ih h2 g2 fun f=>⟨fun hf=>?_,fun hf=>?_⟩
   ·rcases List.mem_cons.1 ((e f).1 (by simp [hf])) with h3 | h3
    ·subst h3;exact absurd (h1 _ hf) (nlt_irrefl _)
    ·exact h3
   ·rcases List.mem_cons.1 ((e f).2 (by simp [hf])) with h3 | h3
    ·subst h3;exact absurd (g1 _ hf) (nlt_irrefl _)
    ·exact h3
theorem good_iff (p:Option ByteArray) (fs:List FileD):goodFrom p fs=true ↔ (∀ f ∈ fs,fileOk f=true)∧Row fs∧∀ q,p=some q→∀ f ∈ fs,nlt q f.name:=by
 induction fs generalizing p with
 |nil=>simp [goodFrom,Row]
 |cons f fs ih =>
  unfold goodFrom
  rw [Bool.and_eq_true,Bool.and_eq_true,ih]
  constructor
  ·rintro ⟨⟨h1,h2⟩,h3,h4,h5⟩
   refine ⟨?_,List.pairwise_cons.2 ⟨h5 f.name rfl,h4⟩,?_⟩
   ·intro g hg
    rcases List.mem_cons.1 hg with rfl | hg
    ·exact h1
    ·exact h3 g hg
   ·rintro q rfl g hg
    have hq:nlt q f.name:=upTo_no.1 (by simpa using h2)
    rcases List.mem_cons.1 hg with rfl | hg
    ·exact hq
    ·exact nlt_trans hq (h5 _ rfl g hg)
  ·rintro ⟨h1,h2,h3⟩
   obtain ⟨h4,h5⟩:=List.pairwise_cons.1 h2
   refine ⟨⟨h1 f (by simp),?_⟩,fun g hg=>h1 g (by simp [hg]),h5,?_⟩
   ·rcases p with _ | q
    ·rfl
    ·simpa using upTo_no.2 (h3 q rfl f (by simp))
   ·rintro q ⟨⟩ g hg
    exact h4 g hg
theorem right_iff (d:DiskD):rightB d=true ↔ (0≤d.room∧d.room≤65536) ∧ -1≤d.fuse∧d.files.length≤64∧(∀ f ∈ d.files,fileOk f=true)∧Row d.files∧(used d.files:Int)≤d.room:=by
 unfold rightB
 simp only [Bool.and_eq_true,decide_eq_true_eq,good_iff,reduceCtorEq,false_implies,implies_true,and_true,and_assoc]
def ahead (nm:ByteArray) (fs:List FileD):List FileD:=fs.filter fun g=>decide (nlt g.name nm)
def behind (nm:ByteArray) (fs:List FileD):List FileD:=fs.filter fun g=>decide (nlt nm g.name)
def called (nm:ByteArray) (fs:List FileD):List FileD:=fs.filter fun g=>sameName g.name nm
theorem ahead_cons (nm:ByteArray) (g:FileD) (fs:List FileD):ahead nm (g :: fs)=if nlt g.name nm then g :: ahead nm fs else ahead nm fs:=by unfold ahead;rw [List.filter_cons];simp
theorem called_cons (nm:ByteArray) (g:FileD) (fs:List FileD):called nm (g :: fs)=if g.name=nm then g :: called nm fs else called nm fs:=by unfold called;rw [List.filter_cons];simp [same_iff]
theorem behind_cons (nm:ByteArray) (g:FileD) (fs:List FileD):behind nm (g :: fs)=if nlt nm g.name then g :: behind nm fs else behind nm fs:=by unfold behind;rw [List.filter_cons];simp
theorem used_cons (f:FileD) (fs:List FileD):used (f :: fs)=f.data.length+used fs:=by simp [used]
theorem three (nm:ByteArray) (fs:List FileD):used fs=used (ahead nm fs)+used (called nm fs)+used (behind nm fs)∧fs.length=(ahead nm fs).length+(called nm fs).length+(behind nm fs).length:=by
 induction fs with
 |nil=>exact ⟨rfl,rfl⟩
 |cons g fs ih =>
  obtain ⟨i1,i2⟩:=ih
  rw [used_cons,List.length_cons,ahead_cons,called_cons,behind_cons]
  rcases nlt_tri g.name nm with h | h | h
  ·rw [if_pos h,if_neg (nlt_ne h),if_neg (nlt_asymm h),used_cons,List.length_cons];omega
  ·rw [if_neg (by rw [h];exact nlt_irrefl _),if_pos h,if_neg (by rw [h];exact nlt_irrefl _),used_cons,List.length_cons];omega
  ·rw [if_neg (nlt_asymm h),if_neg (nlt_ne h).symm,if_pos h,used_cons,List.length_cons];omega
end Go.Proofs.Ytcpahggkioagkaa.disk
end
section
namespace Go.Proofs.Ytcpahggkioagkaa.disk
set_option maxRecDepth 20000
open Go.RowKit
def Has (fs:List FileD) (nm:ByteArray) (was:List Nat):Prop := ∃ f ∈ fs,f.name=nm∧was <+: f.data∧(was.length:Int)≤f.sure
end Go.Proofs.Ytcpahggkioagkaa.disk
end
section
namespace Go.Proofs.Ytcpahggkioagkaa
set_option maxRecDepth 20000
open Go.RowKit
theorem Elems.cut {α:Type} {R:Rd α} {size:Nat} {w:World} {S:Nat→Prop} {A:Option Addr} {xs:List α} (h:Elems R size w S A xs) (m cap:Nat) (hc:xs.length≤cap):Elems R size w S (cutAt A cap m size) (xs.drop m):=fun h0=>by
 rw [List.length_drop] at h0
 obtain ⟨b,off,rfl,hb,hj⟩:=h (by omega)
 have hne:¬ cap=m:=by omega
 refine ⟨b,off+m * size,by simp [cutAt,hne,Addr.add],hb,fun j x hx=>?_⟩
 rw [List.getElem?_drop] at hx
 obtain ⟨cs,h1,h2,h3⟩:=hj (m+j) x hx
 refine ⟨cs,h1,fun i c hic=>?_,h3⟩
 have:=h2 i c hic
 rw [Nat.add_mul] at this
 rw [← this]
 congr 2
 omega
end Go.Proofs.Ytcpahggkioagkaa
end
