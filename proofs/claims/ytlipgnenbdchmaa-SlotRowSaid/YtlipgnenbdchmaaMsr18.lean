/-
  DiskMath
-/
import Derived.Test.YtlipgnenbdchmaaMsr17
set_option linter.unusedVariables false
set_option linter.unusedSimpArgs false
namespace Go.Proofs.Ytlipgnenbdchmaa.disk
set_option maxRecDepth 20000
open Go.RowKit
theorem old_cases (nm:ByteArray) (fs:List FileD):(look nm fs=none∧oldOf nm fs=⟨nm,[],0⟩)∨∃ f,look nm fs=some f∧oldOf nm fs=f∧f ∈ fs∧f.name=nm:=by
 unfold oldOf
 cases e:look nm fs with
 |none=>exact .inl ⟨rfl,rfl⟩
 |some f=>exact .inr ⟨f,rfl,rfl,(look_some e).1,(look_some e).2⟩
theorem old_name (nm:ByteArray) (fs:List FileD):(oldOf nm fs).name=nm:=by
 rcases old_cases nm fs with ⟨_,h⟩ | ⟨f,_,h,_,h2⟩<;>rw [h]
 exact h2
theorem first_zero {d:DiskD} {a b:ByteArray} : firstE d a b=0 ↔ rightB d=true∧d.down=false∧named a=true∧named b=true:=by
 unfold firstE
 cases rightB d<;>cases d.down<;>cases named a<;>cases named b<;>simp
theorem first_up {d:DiskD} {a b:ByteArray} (h:rightB d=true) (h2:d.down=false):firstE d a b=if named a && named b then 0 else 1:=by unfold firstE;rw [h,h2];simp
theorem op_cases (d:DiskD) (a b:ByteArray) (pre:Int) (fs:List FileD) (app:Bool) :
  (firstE d a b≠0∧opD d a b pre fs app=(d,firstE d a b))∨(firstE d a b=0∧pre≠0∧opD d a b pre fs app=(d,pre)) ∨
  (firstE d a b=0∧pre=0∧d.fuse=0∧opD d a b pre fs app=(⟨if app then fs else d.files,d.room,0,true⟩,9)) ∨
  (firstE d a b=0∧pre=0∧d.fuse≠0∧opD d a b pre fs app=(⟨fs,d.room,if 0 < d.fuse then d.fuse - 1 else d.fuse,d.down⟩,0)):=by
 unfold opD
 by_cases h1:firstE d a b=0
 ·rw [if_neg (by simpa using h1)]
  by_cases h2:pre=0
  ·rw [if_neg (by simpa using h2)]
   by_cases h3:d.fuse=0
   ·rw [if_pos h3,h3];exact .inr (.inr (.inl ⟨h1,h2,rfl,rfl⟩))
   ·rw [if_neg h3];exact .inr (.inr (.inr ⟨h1,h2,h3,rfl⟩))
  ·rw [if_pos h2];exact .inr (.inl ⟨h1,h2,rfl⟩)
 ·rw [if_pos h1];exact .inl ⟨h1,rfl⟩
def FilesOk (room:Int) (fs:List FileD):Prop:=fs.length≤64∧(∀ f ∈ fs,fileOk f=true)∧Row fs∧(used fs:Int)≤room
theorem right_files {d:DiskD} (h:rightB d=true):FilesOk d.room d.files:=by
 obtain ⟨_,_,h1,h2,h3,h4⟩:=(right_iff d).1 h
 exact ⟨h1,h2,h3,h4⟩
theorem right_op {d:DiskD} {a b:ByteArray} {pre:Int} {fs:List FileD} {app:Bool} (h:rightB d=true) (hf:firstE d a b=0→pre=0→FilesOk d.room fs):rightB (opD d a b pre fs app).1=true:=by
 obtain ⟨r1,r2,r3⟩:=(right_iff d).1 h
 rcases op_cases d a b pre fs app with ⟨_,e⟩ | ⟨_,_,e⟩ | ⟨h1,h2,_,e⟩ | ⟨h1,h2,h3,e⟩<;>rw [e]
 ·exact h
 ·exact h
 ·rw [right_iff]
  refine ⟨r1,by simp,?_⟩
  cases app
  ·exact r3
  ·exact hf h1 h2
 ·rw [right_iff]
  refine ⟨r1,?_,hf h1 h2⟩
  show -1≤if 0 < d.fuse then d.fuse - 1 else d.fuse
  split<;>omega
theorem ok_with {room:Int} {fs:List FileD} {f:FileD} (h:FilesOk room fs) (hf:fileOk f=true)
  (hn:look f.name fs=none→fs.length < 64∧(used fs+f.data.length:Nat)≤room) (ho:∀ g,look f.name fs=some g→(used fs+f.data.length:Nat)≤room+g.data.length):FilesOk room (withF f fs):=by
 obtain ⟨h1,h2,h3,h4⟩:=h
 refine ⟨?_,?_,row_with f h3,?_⟩
 ·cases e:look f.name fs with
  |none=>rw [(with_new f h3 (look_none e)).2];have:=(hn e).1;omega
  |some g=>rw [(with_old f g h3 (look_some e).1 (look_some e).2).2];exact h1
 ·intro g hg
  rcases (mem_with h3).1 hg with rfl | ⟨hg,_⟩
  ·exact hf
  ·exact h2 g hg
 ·cases e:look f.name fs with
  |none=>rw [(with_new f h3 (look_none e)).1];exact (hn e).2
  |some g=>have h5:=(with_old f g h3 (look_some e).1 (look_some e).2).1;have h6:=ho g e;omega
theorem app_zero {d:DiskD} {nm:ByteArray} {b:List Nat} (h:appE d nm b=0):(used d.files+b.length:Nat)≤d.room∧(look nm d.files=none→d.files.length < 64):=by
 unfold appE at h
 split at h
 ·cases h
 ·rename_i hn
  rw [not_or] at hn
  exact ⟨by omega,fun e=>by have:=hn.2;rw [not_and] at this;have:=this e;omega⟩
theorem right_append {d:DiskD} {nm:ByteArray} {b:List Nat} (h:rightB d=true):rightB (appendD d nm b).1=true:=by
 refine right_op h fun h1 h2=>?_
 obtain ⟨a1,a2⟩:=app_zero h2
 obtain ⟨_,_,hnm,_⟩:=first_zero.1 h1
 have hr:=(right_iff d).1 h
 have hf:=right_files h
 unfold appF
 rcases old_cases nm d.files with ⟨e1,e2⟩ | ⟨f,e1,e2,e3,e4⟩
 ·rw [e2]
  refine ok_with hf ?_ (fun _=>⟨a2 e1,by simpa using a1⟩) (fun g hg=>by rw [e1] at hg;cases hg)
  rw [file_iff]
  exact ⟨hnm,by simp,by simp<;>omega,by simp<;>omega⟩
 ·rw [e2]
  have hfo:=(file_iff f).1 (hf.2.1 f e3)
  have hl:f.data.length≤used d.files:=used_mem e3
  refine ok_with hf ?_ (fun e=>by rw [e4,e1] at e;cases e) (fun g hg=>?_)
  ·rw [file_iff]
   refine ⟨by rw [e4];exact hnm,hfo.2.1,?_,?_⟩<;>simp only [List.length_append]<;>omega
  ·rw [e4,e1] at hg
   injection hg with hg
   subst hg
   simp only [List.length_append]
   omega
theorem no_zero {fs:List FileD} {nm:ByteArray} (h:noE fs nm=0):∃ f,look nm fs=some f∧oldOf nm fs=f∧f ∈ fs∧f.name=nm:=by
 rcases old_cases nm fs with ⟨e,_⟩ | h2
 ·unfold noE at h;rw [if_pos e] at h;cases h
 ·exact h2
theorem right_sync {d:DiskD} {nm:ByteArray} (h:rightB d=true):rightB (syncD d nm).1=true:=by
 refine right_op h fun h1 h2=>?_
 obtain ⟨f,e1,e2,e3,e4⟩:=no_zero h2
 have hf:=right_files h
 have hfo:=(file_iff f).1 (hf.2.1 f e3)
 unfold syncF
 rw [e2]
 refine ok_with hf ?_ (fun e=>by rw [e4,e1] at e;cases e) (fun g hg=>?_)
 ·rw [file_iff]
  exact ⟨hfo.1,by simp,by simp,hfo.2.2.2⟩
 ·rw [e4,e1] at hg
  injection hg with hg
  subst hg
  have:=hf.2.2.2
  show ((used d.files+f.data.length:Nat):Int)≤d.room+f.data.length
  omega
theorem cut_zero {fs:List FileD} {nm:ByteArray} {n:Int} (h:cutE fs nm n=0):∃ f,look nm fs=some f∧oldOf nm fs=f∧f ∈ fs∧f.name=nm∧0≤n∧n≤(f.data.length:Int):=by
 rcases old_cases nm fs with ⟨e,_⟩ | ⟨f,h1,h2,h3,h4⟩
 ·unfold cutE at h;rw [if_pos e] at h;cases h
 ·unfold cutE at h
  rw [h2,if_neg (by rw [h1];simp)] at h
  split at h
  ·cases h
  ·rename_i hn
   exact ⟨f,h1,h2,h3,h4,by omega,by omega⟩
theorem right_cut {d:DiskD} {nm:ByteArray} {n:Int} (h:rightB d=true):rightB (cutD d nm n).1=true:=by
 refine right_op h fun h1 h2=>?_
 obtain ⟨f,e1,e2,e3,e4,e5,e6⟩:=cut_zero h2
 have hf:=right_files h
 have hfo:=(file_iff f).1 (hf.2.1 f e3)
 have hu:=hf.2.2.2
 unfold cutF
 rw [e2]
 refine ok_with hf ?_ (fun e=>by rw [e4,e1] at e;cases e) (fun g hg=>?_)
 ·rw [file_iff]
  refine ⟨hfo.1,?_,?_,?_⟩
  ·show 0≤if n < f.sure then n else f.sure
   split<;>omega
  ·show (if n < f.sure then n else f.sure)≤((f.data.take n.toNat).length:Int)
   rw [List.length_take]
   split<;>omega
  ·show (f.data.take n.toNat).length≤65536
   rw [List.length_take];omega
 ·rw [e4,e1] at hg
  injection hg with hg
  subst hg
  show ((used d.files+(f.data.take n.toNat).length:Nat):Int)≤d.room+f.data.length
  rw [List.length_take];omega
theorem kept_ok {keep:List Int} {i:Nat} {f:FileD} (h:fileOk f=true):fileOk (keptOf keep i f)=true∧(keptOf keep i f).name=f.name∧((keptOf keep i f).data.length:Int)=(keptOf keep i f).sure ∧
  (keptOf keep i f).data <+: f.data∧f.data.take f.sure.toNat <+: (keptOf keep i f).data∧(keptOf keep i f).data.length≤f.data.length:=by
 obtain ⟨h1,h2,h3,h4⟩:=(file_iff f).1 h
 obtain ⟨l,hl⟩:∃ l,leftOf keep i f=l:=⟨_,rfl⟩
 have hle:l≤f.data.length - f.sure.toNat:=by rw [← hl];exact Nat.min_le_right _ _
 have hlen:(f.data.take (f.sure.toNat+l)).length=f.sure.toNat+l:=by rw [List.length_take];omega
 unfold keptOf
 rw [file_iff,hl]
 refine ⟨⟨h1,?_,?_,?_⟩,rfl,?_,List.take_prefix _ _,?_,?_⟩
 ·show 0≤f.sure+(l:Nat);omega
 ·show f.sure+(l:Nat)≤((f.data.take (f.sure.toNat+l)).length:Int);rw [hlen];omega
 ·show (f.data.take (f.sure.toNat+l)).length≤65536;rw [hlen];omega
 ·show ((f.data.take (f.sure.toNat+l)).length:Int)=f.sure+(l:Nat);rw [hlen];omega
 ·show f.data.take f.sure.toNat <+: f.data.take (f.sure.toNat+l)
  exact List.prefix_take_iff.2 ⟨List.take_prefix _ _,by rw [List.length_take];omega⟩
 ·show (f.data.take (f.sure.toNat+l)).length≤f.data.length;rw [hlen];omega
theorem back_get (keep:List Int) (fs:List FileD) (i:Nat):(backF keep fs)[i]?=(fs[i]?).map (keptOf keep i):=by unfold backF;rw [List.getElem?_mapIdx]
theorem back_len (keep:List Int) (fs:List FileD):(backF keep fs).length=fs.length:=by unfold backF;simp
theorem mem_back {keep:List Int} {fs:List FileD} {g:FileD} (h:g ∈ backF keep fs):∃ i f,fs[i]?=some f∧f ∈ fs∧g=keptOf keep i f:=by
 obtain ⟨i,hi⟩:=List.getElem?_of_mem h
 rw [back_get,Option.map_eq_some_iff] at hi
 obtain ⟨f,hf,e⟩:=hi
 exact ⟨i,f,hf,List.mem_of_getElem? hf,e.symm⟩
theorem back_mem {keep:List Int} {fs:List FileD} {f:FileD} (h:f ∈ fs):∃ i,keptOf keep i f ∈ backF keep fs:=by
 obtain ⟨i,hi⟩:=List.getElem?_of_mem h
 exact ⟨i,List.mem_of_getElem? (i:=i) (by rw [back_get,hi];rfl)⟩
theorem back_names (keep:List Int) (fs:List FileD):(backF keep fs).map (·.name)=fs.map (·.name):=by
 refine List.ext_getElem? fun i=>?_
 rw [List.getElem?_map,List.getElem?_map,back_get]
 cases fs[i]?<;>rfl
theorem row_names (fs:List FileD):Row fs ↔ (fs.map (·.name)).Pairwise nlt:=by unfold Row;rw [List.pairwise_map]
theorem used_mapIdx (fs:List FileD) (p:Nat→FileD→FileD) (h:∀ i,∀ f ∈ fs,(p i f).data.length≤f.data.length):used (fs.mapIdx p)≤used fs:=by
 induction fs generalizing p with
 |nil=>simp [used]
 |cons f fs ih =>
  rw [List.mapIdx_cons,used_cons,used_cons]
  have h1:=h 0 f (by simp)
  have h2:=ih (fun i=>p (i+1)) (fun i g hg=>h (i+1) g (by simp [hg]))
  omega
theorem ok_back {room:Int} {fs:List FileD} (keep:List Int) (h:FilesOk room fs):FilesOk room (backF keep fs):=by
 obtain ⟨h1,h2,h3,h4⟩:=h
 refine ⟨by rw [back_len];exact h1,fun g hg=>?_,?_,?_⟩
 ·obtain ⟨i,f,_,hf,rfl⟩:=mem_back hg
  exact (kept_ok (h2 f hf)).1
 ·rw [row_names,back_names,← row_names];exact h3
 ·have:=used_mapIdx fs (keptOf keep) (fun i f hf=>(kept_ok (keep:=keep) (i:=i) (h2 f hf)).2.2.2.2.2)
  unfold backF
  omega
theorem right_back {d:DiskD} {keep:List Int} {fuse:Int} (h:rightB d=true):rightB (backD d keep fuse).1=true:=by
 unfold backD
 split
 ·rename_i h2
  obtain ⟨r1,_,_⟩:=(right_iff d).1 h
  rw [right_iff]
  exact ⟨r1,h2.2,ok_back keep (right_files h)⟩
 ·exact h
theorem kept_again {keep:List Int} {i:Nat} {f:FileD} (h:(f.data.length:Int)=f.sure):keptOf keep i f=f:=by
 have h0:leftOf keep i f=0:=by unfold leftOf;omega
 unfold keptOf
 rw [h0,show f.sure.toNat+0=f.data.length by omega,List.take_length]
 simp
theorem back_again {fs:List FileD} (keep:List Int) (h:∀ f ∈ fs,(f.data.length:Int)=f.sure):backF keep fs=fs:=by
 refine List.ext_getElem? fun i=>?_
 rw [back_get]
 cases e:fs[i]? with
 |none=>rfl
 |some f=>rw [Option.map_some,kept_again (h f (List.mem_of_getElem? e))]
def Has (fs:List FileD) (nm:ByteArray) (was:List Nat):Prop := ∃ f ∈ fs,f.name=nm∧was <+: f.data∧(was.length:Int)≤f.sure
end Go.Proofs.Ytlipgnenbdchmaa.disk
