/-
  DiskOps
-/
import Derived.Test.YtlipgnenbdchmaaMsg09
set_option linter.unusedVariables false
set_option linter.unusedSimpArgs false
namespace Go.Proofs.Ytlipgnenbdchmaa.disk
set_option maxRecDepth 20000
open Go.RowKit
abbrev nlt (a b:ByteArray):Prop:=a.toList < b.toList
theorem less_iff:∀ (x y:List UInt8),Op.bytesLess x y=decide (x < y)
 | [],[]=>by simp [Op.bytesLess]
 | _ :: _,[]=>by simp [Op.bytesLess]
 | [],_ :: _=>by simp [Op.bytesLess]
 |a :: x,b :: y=>by
  rw [Op.bytesLess,less_iff x y]
  simp only [List.cons_lt_cons_iff]
  by_cases h1:a < b<;>by_cases h2:a=b<;>by_cases h3:x < y<;>simp [h1,h2,h3]
theorem nlt_irrefl (a:ByteArray):¬ nlt a a:=List.lt_irrefl _
theorem nlt_trans {a b c:ByteArray} (h:nlt a b) (g:nlt b c):nlt a c:=List.lt_trans h g
theorem nlt_asymm {a b:ByteArray} (h:nlt a b):¬ nlt b a:=fun g=>nlt_irrefl a (nlt_trans h g)
theorem name_eq {a b:ByteArray} : a.toList=b.toList ↔ a=b:=by
 rw [ByteArray.toList_eq,ByteArray.toList_eq]
 constructor
 ·intro h
  obtain ⟨⟨a⟩⟩:=a
  obtain ⟨⟨b⟩⟩:=b
  simp at h
  rw [h]
 ·intro h;rw [h]
theorem nlt_tri (a b:ByteArray):nlt a b∨a=b∨nlt b a:=by
 by_cases h:nlt a b
 ·exact .inl h
 ·by_cases g:nlt b a
  ·exact .inr (.inr g)
  ·exact .inr (.inl (name_eq.1 (List.le_antisymm g h)))
theorem nlt_ne {a b:ByteArray} (h:nlt a b):a≠b:=fun e=>nlt_irrefl b (e▸h)
theorem same_iff {a b:ByteArray} : sameName a b=true ↔ a=b:=by unfold sameName;rw [beq_iff_eq];exact name_eq
theorem same_no {a b:ByteArray} : sameName a b=false ↔ a≠b:=by rw [← Bool.not_eq_true,same_iff]
theorem atLeast_iff {a b:ByteArray} : atLeast a b=true ↔ ¬ nlt a b:=by unfold atLeast;rw [less_iff];simp
theorem upTo_no {a b:ByteArray} : upTo a b=false ↔ nlt b a:=by
 unfold upTo
 rw [less_iff,Bool.or_eq_false_iff,decide_eq_false_iff_not]
 constructor
 ·rintro ⟨h1,h2⟩
  rcases nlt_tri a b with h | h | h
  ·exact absurd h h1
  ·subst h;simp at h2
  ·exact h
 ·intro h
  exact ⟨nlt_asymm h,by simpa using fun e=>nlt_ne h (name_eq.1 e).symm⟩
def Row (fs:List FileD):Prop:=fs.Pairwise fun f g=>nlt f.name g.name
theorem Row.uniq {fs:List FileD} (h:Row fs) {f g:FileD} (hf:f ∈ fs) (hg:g ∈ fs) (e:f.name=g.name):f=g:=by
 induction fs with
 |nil=>cases hf
 |cons x fs ih =>
  obtain ⟨h1,h2⟩:=List.pairwise_cons.1 h
  rcases List.mem_cons.1 hf with e1 | hf'<;>rcases List.mem_cons.1 hg with e2 | hg'
  ·rw [e1,e2]
  ·exact absurd (h1 g hg') (by rw [← e1,e];exact nlt_irrefl _)
  ·exact absurd (h1 f hf') (by rw [← e2,e];exact nlt_irrefl _)
  ·exact ih h2 hf' hg'
theorem Row.ext {fs gs:List FileD} (h:Row fs) (g:Row gs) (e:∀ f,f ∈ fs ↔ f ∈ gs):fs=gs:=by
 induction fs generalizing gs with
 |nil=>cases gs with
  |nil=>rfl
  |cons y gs=>have:=(e y).2 (by simp);cases this
 |cons x fs ih=>cases gs with
  |nil=>have:=(e x).1 (by simp);cases this
  |cons y gs =>
   obtain ⟨h1,h2⟩:=List.pairwise_cons.1 h
   obtain ⟨g1,g2⟩:=List.pairwise_cons.1 g
   have hxy:x=y:=by
    rcases List.mem_cons.1 ((e x).1 (by simp)) with h3 | h3
    ·exact h3
    ·rcases List.mem_cons.1 ((e y).2 (by simp)) with h4 | h4
     ·exact h4.symm
     ·exact absurd (g1 x h3) (nlt_asymm (h1 y h4))
   subst hxy
   congr 1
   refine ih h2 g2 fun f=>⟨fun hf=>?_,fun hf=>?_⟩
   ·rcases List.mem_cons.1 ((e f).1 (by simp [hf])) with h3 | h3
    ·subst h3;exact absurd (h1 _ hf) (nlt_irrefl _)
    ·exact h3
   ·rcases List.mem_cons.1 ((e f).2 (by simp [hf])) with h3 | h3
    ·subst h3;exact absurd (g1 _ hf) (nlt_irrefl _)
    ·exact h3
theorem good_iff (p:Option ByteArray) (fs:List FileD):goodFrom p fs=true ↔ (∀ f ∈ fs,fileOk f=true)∧Row fs∧∀ q,p=some q→∀ f ∈ fs,nlt q f.name:=by
 induction fs generalizing p with
 |nil=>simp [goodFrom,Row]
 |cons f fs ih =>
  unfold goodFrom
  rw [Bool.and_eq_true,Bool.and_eq_true,ih]
  constructor
  ·rintro ⟨⟨h1,h2⟩,h3,h4,h5⟩
   refine ⟨?_,List.pairwise_cons.2 ⟨h5 f.name rfl,h4⟩,?_⟩
   ·intro g hg
    rcases List.mem_cons.1 hg with rfl | hg
    ·exact h1
    ·exact h3 g hg
   ·rintro q rfl g hg
    have hq:nlt q f.name:=upTo_no.1 (by simpa using h2)
    rcases List.mem_cons.1 hg with rfl | hg
    ·exact hq
    ·exact nlt_trans hq (h5 _ rfl g hg)
  ·rintro ⟨h1,h2,h3⟩
   obtain ⟨h4,h5⟩:=List.pairwise_cons.1 h2
   refine ⟨⟨h1 f (by simp),?_⟩,fun g hg=>h1 g (by simp [hg]),h5,?_⟩
   ·rcases p with _ | q
    ·rfl
    ·simpa using upTo_no.2 (h3 q rfl f (by simp))
   ·rintro q ⟨⟩ g hg
    exact h4 g hg
theorem right_iff (d:DiskD):rightB d=true ↔ (0≤d.room∧d.room≤65536) ∧ -1≤d.fuse∧d.files.length≤64∧(∀ f ∈ d.files,fileOk f=true)∧Row d.files∧(used d.files:Int)≤d.room:=by
 unfold rightB
 simp only [Bool.and_eq_true,decide_eq_true_eq,good_iff,reduceCtorEq,false_implies,implies_true,and_true,and_assoc]
theorem file_iff (f:FileD):fileOk f=true ↔ named f.name=true∧0≤f.sure∧f.sure≤(f.data.length:Int)∧f.data.length≤65536:=by
 unfold fileOk
 simp only [Bool.and_eq_true,decide_eq_true_eq,and_assoc]
def ahead (nm:ByteArray) (fs:List FileD):List FileD:=fs.filter fun g=>decide (nlt g.name nm)
def behind (nm:ByteArray) (fs:List FileD):List FileD:=fs.filter fun g=>decide (nlt nm g.name)
def called (nm:ByteArray) (fs:List FileD):List FileD:=fs.filter fun g=>sameName g.name nm
theorem ahead_cons (nm:ByteArray) (g:FileD) (fs:List FileD):ahead nm (g :: fs)=if nlt g.name nm then g :: ahead nm fs else ahead nm fs:=by unfold ahead;rw [List.filter_cons];simp
theorem called_cons (nm:ByteArray) (g:FileD) (fs:List FileD):called nm (g :: fs)=if g.name=nm then g :: called nm fs else called nm fs:=by unfold called;rw [List.filter_cons];simp [same_iff]
theorem behind_cons (nm:ByteArray) (g:FileD) (fs:List FileD):behind nm (g :: fs)=if nlt nm g.name then g :: behind nm fs else behind nm fs:=by unfold behind;rw [List.filter_cons];simp
theorem put_true (f:FileD) (fs:List FileD):putFrom f fs true=sans f.name fs:=by
 induction fs with
 |nil=>rfl
 |cons g fs ih =>
  rw [putFrom,Bool.true_or,ih]
  unfold sans
  rw [List.filter_cons]
  cases sameName g.name f.name<;>simp
theorem with_eq {fs:List FileD} (f:FileD) (h:Row fs):withF f fs=ahead f.name fs++[f]++behind f.name fs:=by
 unfold withF
 induction fs with
 |nil=>rfl
 |cons g fs ih =>
  obtain ⟨h1,h2⟩:=List.pairwise_cons.1 h
  rw [putFrom]
  by_cases hg:nlt g.name f.name
  ·have ha:atLeast g.name f.name=false:=by rw [← Bool.not_eq_true,atLeast_iff];simpa using hg
   have hs:sameName g.name f.name=false:=same_no.2 (nlt_ne hg)
   rw [ha,hs,Bool.false_or,ih h2]
   rw [ahead_cons,behind_cons,if_pos hg,if_neg (nlt_asymm hg)]
   simp
  ·have ha:atLeast g.name f.name=true:=atLeast_iff.2 hg
   rw [ha,Bool.false_or,put_true]
   have hall:∀ x ∈ fs,nlt f.name x.name:=fun x hx=>by
    rcases nlt_tri g.name f.name with h3 | h3 | h3
    ·exact absurd h3 hg
    ·rw [← h3];exact h1 x hx
    ·exact nlt_trans h3 (h1 x hx)
   have e1:sans f.name fs=fs:=by
    unfold sans
    rw [List.filter_eq_self]
    intro x hx
    simp [same_no.2 (nlt_ne (hall x hx)).symm]
   have e2:ahead f.name fs=[]:=by
    unfold ahead
    rw [List.filter_eq_nil_iff]
    intro x hx
    simpa using nlt_asymm (hall x hx)
   have e3:behind f.name fs=fs:=by
    unfold behind
    rw [List.filter_eq_self]
    intro x hx
    simpa using hall x hx
   have e4:ahead f.name (g :: fs)=[]:=by rw [ahead_cons,if_neg hg,e2]
   rw [e1,e4,behind_cons,e3]
   rcases nlt_tri g.name f.name with h3 | h3 | h3
   ·exact absurd h3 hg
   ·have hn:¬ nlt f.name g.name:=by rw [h3];exact nlt_irrefl _
    rw [if_neg hn,same_iff.2 h3];simp
   ·rw [same_no.2 (nlt_ne h3).symm,if_pos h3];simp
theorem mem_with {fs:List FileD} {f g:FileD} (h:Row fs):g ∈ withF f fs ↔ g=f∨(g ∈ fs∧g.name≠f.name):=by
 rw [with_eq f h]
 simp only [ahead,behind,List.mem_append,List.mem_filter,decide_eq_true_eq,List.mem_singleton]
 constructor
 ·rintro ((⟨h1,h2⟩ | rfl) | ⟨h1,h2⟩)
  ·exact .inr ⟨h1,nlt_ne h2⟩
  ·exact .inl rfl
  ·exact .inr ⟨h1,(nlt_ne h2).symm⟩
 ·rintro (rfl | ⟨h1,h2⟩)
  ·exact .inl (.inr rfl)
  ·rcases nlt_tri g.name f.name with h3 | h3 | h3
   ·exact .inl (.inl ⟨h1,h3⟩)
   ·exact absurd h3 h2
   ·exact .inr ⟨h1,h3⟩
theorem row_with {fs:List FileD} (f:FileD) (h:Row fs):Row (withF f fs):=by
 rw [with_eq f h]
 unfold Row
 rw [List.pairwise_append,List.pairwise_append]
 refine ⟨⟨List.Pairwise.filter _ h,List.pairwise_singleton _ _,?_⟩,List.Pairwise.filter _ h,?_⟩
 ·intro a ha b hb
  rw [List.mem_singleton] at hb
  subst hb
  simpa [ahead] using (List.mem_filter.1 ha).2
 ·intro a ha b hb
  have hb2:nlt f.name b.name:=by simpa [behind] using (List.mem_filter.1 hb).2
  rcases List.mem_append.1 ha with ha | ha
  ·exact nlt_trans (by simpa [ahead] using (List.mem_filter.1 ha).2) hb2
  ·rw [List.mem_singleton] at ha
   subst ha
   exact hb2
theorem used_cons (f:FileD) (fs:List FileD):used (f :: fs)=f.data.length+used fs:=by simp [used]
theorem used_append (fs gs:List FileD):used (fs++gs)=used fs+used gs:=by simp [used]
theorem three (nm:ByteArray) (fs:List FileD):used fs=used (ahead nm fs)+used (called nm fs)+used (behind nm fs)∧fs.length=(ahead nm fs).length+(called nm fs).length+(behind nm fs).length:=by
 induction fs with
 |nil=>exact ⟨rfl,rfl⟩
 |cons g fs ih =>
  obtain ⟨i1,i2⟩:=ih
  rw [used_cons,List.length_cons,ahead_cons,called_cons,behind_cons]
  rcases nlt_tri g.name nm with h | h | h
  ·rw [if_pos h,if_neg (nlt_ne h),if_neg (nlt_asymm h),used_cons,List.length_cons];omega
  ·rw [if_neg (by rw [h];exact nlt_irrefl _),if_pos h,if_neg (by rw [h];exact nlt_irrefl _),used_cons,List.length_cons];omega
  ·rw [if_neg (nlt_asymm h),if_neg (nlt_ne h).symm,if_pos h,used_cons,List.length_cons];omega
theorem called_none {nm:ByteArray} {fs:List FileD} (h:∀ g ∈ fs,g.name≠nm):called nm fs=[]:=by
 unfold called
 rw [List.filter_eq_nil_iff]
 intro x hx
 rw [same_iff]
 exact h x hx
theorem called_one {fs:List FileD} {g:FileD} (h:Row fs) (hg:g ∈ fs):called g.name fs=[g]:=by
 refine Row.ext (List.Pairwise.filter _ h) (List.pairwise_singleton _ _) fun f=>?_
 unfold called
 rw [List.mem_filter,same_iff,List.mem_singleton]
 exact ⟨fun ⟨h1,h2⟩=>h.uniq h1 hg h2,fun e=>by subst e;exact ⟨hg,rfl⟩⟩
theorem with_new {fs:List FileD} (f:FileD) (h:Row fs) (hn:∀ g ∈ fs,g.name≠f.name):used (withF f fs)=used fs+f.data.length∧(withF f fs).length=fs.length+1:=by
 obtain ⟨t1,t2⟩:=three f.name fs
 rw [called_none hn] at t1 t2
 rw [with_eq f h,used_append,used_append,List.length_append,List.length_append,used_cons]
 simp only [used,List.map_nil,List.sum_nil,List.length_nil,List.length_singleton] at t1 t2 ⊢
 omega
theorem with_old {fs:List FileD} (f g:FileD) (h:Row fs) (hg:g ∈ fs) (e:g.name=f.name):used (withF f fs)+g.data.length=used fs+f.data.length∧(withF f fs).length=fs.length:=by
 obtain ⟨t1,t2⟩:=three f.name fs
 rw [← e,called_one h hg,e] at t1 t2
 rw [with_eq f h,used_append,used_append,List.length_append,List.length_append,used_cons]
 rw [used_cons] at t1
 simp only [used,List.map_nil,List.sum_nil,List.length_singleton] at t1 t2 ⊢
 omega
theorem used_mem {fs:List FileD} {f:FileD} (h:f ∈ fs):f.data.length≤used fs:=by
 induction fs with
 |nil=>cases h
 |cons g fs ih =>
  rw [used_cons]
  rcases List.mem_cons.1 h with rfl | h
  ·omega
  ·have:=ih h;omega
def look (nm:ByteArray) (fs:List FileD):Option FileD:=fs.find? fun f=>sameName f.name nm
theorem look_some {nm:ByteArray} {fs:List FileD} {f:FileD} (h:look nm fs=some f):f ∈ fs∧f.name=nm :=
 ⟨List.mem_of_find?_eq_some h,same_iff.1 (by simpa using List.find?_some h)⟩
theorem look_none {nm:ByteArray} {fs:List FileD} (h:look nm fs=none):∀ g ∈ fs,g.name≠nm:=fun g hg=>by
 have:=List.find?_eq_none.1 h g hg
 rw [same_iff] at this
 exact this
theorem look_of {fs:List FileD} {f:FileD} (h:Row fs) (hf:f ∈ fs):look f.name fs=some f:=by
 cases e:look f.name fs with
 |none=>exact absurd rfl (look_none e f hf)
 |some g=>obtain ⟨h1,h2⟩:=look_some e;rw [h.uniq h1 hf h2]
theorem look_no {nm:ByteArray} {fs:List FileD} (h:∀ g ∈ fs,g.name≠nm):look nm fs=none:=by
 cases e:look nm fs with
 |none=>rfl
 |some g=>obtain ⟨h1,h2⟩:=look_some e;exact absurd h2 (h g h1)
theorem find_look (nm:ByteArray) (fs:List FileD) (k:Nat):(findFrom nm fs k=none∧look nm fs=none)∨∃ j f,findFrom nm fs k=some (k+j)∧fs[j]?=some f∧look nm fs=some f:=by
 induction fs generalizing k with
 |nil=>exact .inl ⟨rfl,rfl⟩
 |cons g fs ih =>
  rw [findFrom]
  unfold look at ih ⊢
  rw [List.find?_cons]
  cases hs:sameName g.name nm with
  |true=>exact .inr ⟨0,g,by simp,rfl,rfl⟩
  |false =>
   rcases ih (k+1) with ⟨h1,h2⟩ | ⟨j,f,h1,h2,h3⟩
   ·exact .inl ⟨by simpa using h1,h2⟩
   ·exact .inr ⟨j+1,f,by simp [h1];omega,by simpa using h2,h3⟩
theorem findI_look (nm:ByteArray) (fs:List FileD):(findI fs nm = -1∧look nm fs=none)∨∃ (k:Nat) (f:FileD),findI fs nm=(k:Int)∧fs[k]?=some f∧look nm fs=some f:=by
 rcases find_look nm fs 0 with ⟨h1,h2⟩ | ⟨j,f,h1,h2,h3⟩
 ·exact .inl ⟨by unfold findI;rw [h1],h2⟩
 ·exact .inr ⟨j,f,by unfold findI;rw [h1];simp,h2,h3⟩
def opD (d:DiskD) (a b:ByteArray) (pre:Int) (fs:List FileD) (app:Bool):DiskD × Int :=
 if firstE d a b≠0 then (d,firstE d a b)
 else if pre≠0 then (d,pre)
 else if d.fuse=0 then (⟨if app then fs else d.files,d.room,d.fuse,true⟩,9)
 else (⟨fs,d.room,if 0 < d.fuse then d.fuse - 1 else d.fuse,d.down⟩,0)
def oldOf (nm:ByteArray) (fs:List FileD):FileD:=(look nm fs).getD ⟨nm,[],0⟩
def appE (d:DiskD) (nm:ByteArray) (b:List Nat):Int:=if d.room < (used d.files+b.length:Nat)∨(look nm d.files=none∧64≤d.files.length) then 6 else 0
def appF (fs:List FileD) (nm:ByteArray) (b:List Nat):List FileD:=withF { oldOf nm fs with data:=(oldOf nm fs).data++b } fs
def noE (fs:List FileD) (nm:ByteArray):Int:=if look nm fs=none then 7 else 0
def syncF (fs:List FileD) (nm:ByteArray):List FileD:=withF { oldOf nm fs with sure:=((oldOf nm fs).data.length:Nat) } fs
def cutE (fs:List FileD) (nm:ByteArray) (n:Int):Int:=if look nm fs=none then 7 else if n < 0∨((oldOf nm fs).data.length:Int) < n then 1 else 0
def cutF (fs:List FileD) (nm:ByteArray) (n:Int):List FileD:=withF { oldOf nm fs with data:=(oldOf nm fs).data.take n.toNat,sure:=if n < (oldOf nm fs).sure then n else (oldOf nm fs).sure } fs
def appendD (d:DiskD) (nm:ByteArray) (b:List Nat):DiskD × Int:=opD d nm nm (appE d nm b) (appF d.files nm b) true
def syncD (d:DiskD) (nm:ByteArray):DiskD × Int:=opD d nm nm (noE d.files nm) (syncF d.files nm) false
def cutD (d:DiskD) (nm:ByteArray) (n:Int):DiskD × Int:=opD d nm nm (cutE d.files nm n) (cutF d.files nm n) false
def readD (d:DiskD) (nm:ByteArray):List Nat × Int:=if firstE d nm nm≠0 then ([],firstE d nm nm) else match look nm d.files with
 |none=>([],7)
 |some f=>(f.data,0)
end Go.Proofs.Ytlipgnenbdchmaa.disk
