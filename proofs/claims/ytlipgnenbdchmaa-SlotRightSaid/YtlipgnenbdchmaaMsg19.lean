/-
  DiskMath, DiskAwakeM, Off
-/
import Derived.Test.YtlipgnenbdchmaaMsg18
import Derived.WalkKit
import Derived.Test.YtlipgnenbdchmaaMsg09
set_option linter.unusedVariables false
set_option linter.unusedSimpArgs false
section
namespace Go.Proofs.Ytlipgnenbdchmaa.disk
set_option maxRecDepth 20000
open Go.RowKit
theorem old_cases (nm:ByteArray) (fs:List FileD):(look nm fs=none∧oldOf nm fs=⟨nm,[],0⟩)∨∃ f,look nm fs=some f∧oldOf nm fs=f∧f ∈ fs∧f.name=nm:=by
 unfold oldOf
 cases e:look nm fs with
 |none=>exact .inl ⟨rfl,rfl⟩
 |some f=>exact .inr ⟨f,rfl,rfl,(look_some e).1,(look_some e).2⟩
theorem first_zero {d:DiskD} {a b:ByteArray} : firstE d a b=0 ↔ rightB d=true∧d.down=false∧named a=true∧named b=true:=by
 unfold firstE
 cases rightB d<;>cases d.down<;>cases named a<;>cases named b<;>simp
theorem first_down {d:DiskD} {a b:ByteArray} (h:rightB d=true) (h2:d.down=true):firstE d a b=9:=by unfold firstE;rw [h,h2];rfl
theorem first_up {d:DiskD} {a b:ByteArray} (h:rightB d=true) (h2:d.down=false):firstE d a b=if named a && named b then 0 else 1:=by unfold firstE;rw [h,h2];simp
theorem op_cases (d:DiskD) (a b:ByteArray) (pre:Int) (fs:List FileD) (app:Bool) :
  (firstE d a b≠0∧opD d a b pre fs app=(d,firstE d a b))∨(firstE d a b=0∧pre≠0∧opD d a b pre fs app=(d,pre)) ∨
  (firstE d a b=0∧pre=0∧d.fuse=0∧opD d a b pre fs app=(⟨if app then fs else d.files,d.room,0,true⟩,9)) ∨
  (firstE d a b=0∧pre=0∧d.fuse≠0∧opD d a b pre fs app=(⟨fs,d.room,if 0 < d.fuse then d.fuse - 1 else d.fuse,d.down⟩,0)):=by
 unfold opD
 by_cases h1:firstE d a b=0
 ·rw [if_neg (by simpa using h1)]
  by_cases h2:pre=0
  ·rw [if_neg (by simpa using h2)]
   by_cases h3:d.fuse=0
   ·rw [if_pos h3,h3];exact .inr (.inr (.inl ⟨h1,h2,rfl,rfl⟩))
   ·rw [if_neg h3];exact .inr (.inr (.inr ⟨h1,h2,h3,rfl⟩))
  ·rw [if_pos h2];exact .inr (.inl ⟨h1,h2,rfl⟩)
 ·rw [if_pos h1];exact .inl ⟨h1,rfl⟩
def FilesOk (room:Int) (fs:List FileD):Prop:=fs.length≤64∧(∀ f ∈ fs,fileOk f=true)∧Row fs∧(used fs:Int)≤room
theorem right_files {d:DiskD} (h:rightB d=true):FilesOk d.room d.files:=by
 obtain ⟨_,_,h1,h2,h3,h4⟩:=(right_iff d).1 h
 exact ⟨h1,h2,h3,h4⟩
theorem right_op {d:DiskD} {a b:ByteArray} {pre:Int} {fs:List FileD} {app:Bool} (h:rightB d=true) (hf:firstE d a b=0→pre=0→FilesOk d.room fs):rightB (opD d a b pre fs app).1=true:=by
 obtain ⟨r1,r2,r3⟩:=(right_iff d).1 h
 rcases op_cases d a b pre fs app with ⟨_,e⟩ | ⟨_,_,e⟩ | ⟨h1,h2,_,e⟩ | ⟨h1,h2,h3,e⟩<;>rw [e]
 ·exact h
 ·exact h
 ·rw [right_iff]
  refine ⟨r1,by simp,?_⟩
  cases app
  ·exact r3
  ·exact hf h1 h2
 ·rw [right_iff]
  refine ⟨r1,?_,hf h1 h2⟩
  show -1≤if 0 < d.fuse then d.fuse - 1 else d.fuse
  split<;>omega
theorem ok_with {room:Int} {fs:List FileD} {f:FileD} (h:FilesOk room fs) (hf:fileOk f=true)
  (hn:look f.name fs=none→fs.length < 64∧(used fs+f.data.length:Nat)≤room) (ho:∀ g,look f.name fs=some g→(used fs+f.data.length:Nat)≤room+g.data.length):FilesOk room (withF f fs):=by
 obtain ⟨h1,h2,h3,h4⟩:=h
 refine ⟨?_,?_,row_with f h3,?_⟩
 ·cases e:look f.name fs with
  |none=>rw [(with_new f h3 (look_none e)).2];have:=(hn e).1;omega
  |some g=>rw [(with_old f g h3 (look_some e).1 (look_some e).2).2];exact h1
 ·intro g hg
  rcases (mem_with h3).1 hg with rfl | ⟨hg,_⟩
  ·exact hf
  ·exact h2 g hg
 ·cases e:look f.name fs with
  |none=>rw [(with_new f h3 (look_none e)).1];exact (hn e).2
  |some g=>have h5:=(with_old f g h3 (look_some e).1 (look_some e).2).1;have h6:=ho g e;omega
theorem app_zero {d:DiskD} {nm:ByteArray} {b:List Nat} (h:appE d nm b=0):(used d.files+b.length:Nat)≤d.room∧(look nm d.files=none→d.files.length < 64):=by
 unfold appE at h
 split at h
 ·cases h
 ·rename_i hn
  rw [not_or] at hn
  exact ⟨by omega,fun e=>by have:=hn.2;rw [not_and] at this;have:=this e;omega⟩
theorem right_append {d:DiskD} {nm:ByteArray} {b:List Nat} (h:rightB d=true):rightB (appendD d nm b).1=true:=by
 refine right_op h fun h1 h2=>?_
 obtain ⟨a1,a2⟩:=app_zero h2
 obtain ⟨_,_,hnm,_⟩:=first_zero.1 h1
 have hr:=(right_iff d).1 h
 have hf:=right_files h
 unfold appF
 rcases old_cases nm d.files with ⟨e1,e2⟩ | ⟨f,e1,e2,e3,e4⟩
 ·rw [e2]
  refine ok_with hf ?_ (fun _=>⟨a2 e1,by simpa using a1⟩) (fun g hg=>by rw [e1] at hg;cases hg)
  rw [file_iff]
  exact ⟨hnm,by simp,by simp<;>omega,by simp<;>omega⟩
 ·rw [e2]
  have hfo:=(file_iff f).1 (hf.2.1 f e3)
  have hl:f.data.length≤used d.files:=used_mem e3
  refine ok_with hf ?_ (fun e=>by rw [e4,e1] at e;cases e) (fun g hg=>?_)
  ·rw [file_iff]
   refine ⟨by rw [e4];exact hnm,hfo.2.1,?_,?_⟩<;>simp only [List.length_append]<;>omega
  ·rw [e4,e1] at hg
   injection hg with hg
   subst hg
   simp only [List.length_append]
   omega
theorem no_zero {fs:List FileD} {nm:ByteArray} (h:noE fs nm=0):∃ f,look nm fs=some f∧oldOf nm fs=f∧f ∈ fs∧f.name=nm:=by
 rcases old_cases nm fs with ⟨e,_⟩ | h2
 ·unfold noE at h;rw [if_pos e] at h;cases h
 ·exact h2
theorem right_sync {d:DiskD} {nm:ByteArray} (h:rightB d=true):rightB (syncD d nm).1=true:=by
 refine right_op h fun h1 h2=>?_
 obtain ⟨f,e1,e2,e3,e4⟩:=no_zero h2
 have hf:=right_files h
 have hfo:=(file_iff f).1 (hf.2.1 f e3)
 unfold syncF
 rw [e2]
 refine ok_with hf ?_ (fun e=>by rw [e4,e1] at e;cases e) (fun g hg=>?_)
 ·rw [file_iff]
  exact ⟨hfo.1,by simp,by simp,hfo.2.2.2⟩
 ·rw [e4,e1] at hg
  injection hg with hg
  subst hg
  have:=hf.2.2.2
  show ((used d.files+f.data.length:Nat):Int)≤d.room+f.data.length
  omega
theorem cut_zero {fs:List FileD} {nm:ByteArray} {n:Int} (h:cutE fs nm n=0):∃ f,look nm fs=some f∧oldOf nm fs=f∧f ∈ fs∧f.name=nm∧0≤n∧n≤(f.data.length:Int):=by
 rcases old_cases nm fs with ⟨e,_⟩ | ⟨f,h1,h2,h3,h4⟩
 ·unfold cutE at h;rw [if_pos e] at h;cases h
 ·unfold cutE at h
  rw [h2,if_neg (by rw [h1];simp)] at h
  split at h
  ·cases h
  ·rename_i hn
   exact ⟨f,h1,h2,h3,h4,by omega,by omega⟩
theorem right_cut {d:DiskD} {nm:ByteArray} {n:Int} (h:rightB d=true):rightB (cutD d nm n).1=true:=by
 refine right_op h fun h1 h2=>?_
 obtain ⟨f,e1,e2,e3,e4,e5,e6⟩:=cut_zero h2
 have hf:=right_files h
 have hfo:=(file_iff f).1 (hf.2.1 f e3)
 have hu:=hf.2.2.2
 unfold cutF
 rw [e2]
 refine ok_with hf ?_ (fun e=>by rw [e4,e1] at e;cases e) (fun g hg=>?_)
 ·rw [file_iff]
  refine ⟨hfo.1,?_,?_,?_⟩
  ·show 0≤if n < f.sure then n else f.sure
   split<;>omega
  ·show (if n < f.sure then n else f.sure)≤((f.data.take n.toNat).length:Int)
   rw [List.length_take]
   split<;>omega
  ·show (f.data.take n.toNat).length≤65536
   rw [List.length_take];omega
 ·rw [e4,e1] at hg
  injection hg with hg
  subst hg
  show ((used d.files+(f.data.take n.toNat).length:Nat):Int)≤d.room+f.data.length
  rw [List.length_take];omega
def Has (fs:List FileD) (nm:ByteArray) (was:List Nat):Prop := ∃ f ∈ fs,f.name=nm∧was <+: f.data∧(was.length:Int)≤f.sure
end Go.Proofs.Ytlipgnenbdchmaa.disk
end
section
namespace Go.Proofs.Ytlipgnenbdchmaa.disk
set_option maxRecDepth 20000
open Go.RowKit
end Go.Proofs.Ytlipgnenbdchmaa.disk
end
section
namespace Go.Proofs.Ytlipgnenbdchmaa
set_option maxRecDepth 20000
open Go.RowKit
def Off (own:List Nat) (w:World):Nat→Prop:=fun b=>b < w.heap.size∧b ∉ own
theorem Off.lt {own:List Nat} {w:World} : ∀ b,Off own w b→b < w.heap.size:=fun _ h=>h.1
theorem Off.ret {own:List Nat} {w w' : World} (ho:∀ g ∈ own,g < w.heap.size) (hs:w.heap.size≤w'.heap.size):∀ b,Out (Off own w) w w' b→Off own w' b:=fun b h=>by
 rcases h with h | h
 ·exact ⟨Nat.lt_of_lt_of_le h.1 hs,h.2⟩
 ·exact ⟨h.2,fun hm=>by have:=ho b hm;omega⟩
theorem Off.grow {own:List Nat} {w w' : World} (hs:w.heap.size≤w'.heap.size):∀ b,Off own w b→Off own w' b:=fun b h=>⟨Nat.lt_of_lt_of_le h.1 hs,h.2⟩
theorem Off.cons {own:List Nat} {w w' : World} (hs:w.heap.size≤w'.heap.size) {g:Nat} (hg:w.heap.size≤g):∀ b,Off own w b→Off (g :: own) w' b:=fun b h =>
 ⟨Nat.lt_of_lt_of_le h.1 hs,fun hm=>by
  rcases List.mem_cons.1 hm with e | hm
  ·have:=h.1;omega
  ·exact h.2 hm⟩
section
variable {own:List Nat} {w w' : World} {A:Option Addr} {fs:List FileD} {bs:List Nat}
theorem FilesIn.off (h:FilesIn w (Lt w.heap.size) A fs):FilesIn w (Off [] w) A fs:=h.more (fun b h=>⟨h,by simp⟩)
theorem FilesIn.ret (h:FilesIn w' (Out (Off own w) w w') A fs) (ho:∀ g ∈ own,g < w.heap.size) (hs:w.heap.size≤w'.heap.size):FilesIn w' (Off own w') A fs:=h.more (Off.ret ho hs)
theorem FilesIn.grow (h:FilesIn w (Off own w) A fs) (hb:Below w.heap.size w w'):FilesIn w' (Off own w') A fs:=(h.below Off.lt hb).more (Off.grow hb.size)
theorem FilesIn.alloc (h:FilesIn w (Off own w) A fs) (o:Obj):FilesIn (w.alloc o) (Off own (w.alloc o)) A fs:=h.grow ((Below.refl _ _).alloc (Nat.le_refl _) o)
theorem FilesIn.drew (h:FilesIn w (Off own w) A fs):FilesIn w.drew (Off own w.drew) A fs:=h
theorem FilesIn.drewN (h:FilesIn w (Off own w) A fs) (m:Nat):FilesIn (w.drewN m) (Off own (w.drewN m)) A fs:=Elems.keep keeps_file h (fun _ _ _=>rfl) (fun _ h=>h)
theorem BysIn.off (h:BysIn w (Lt w.heap.size) A bs):BysIn w (Off [] w) A bs:=IntsIn.keep h (alike_refl _ _) (fun b h=>⟨h,by simp⟩)
theorem BysIn.ret (h:BysIn w' (Out (Off own w) w w') A bs) (ho:∀ g ∈ own,g < w.heap.size) (hs:w.heap.size≤w'.heap.size):BysIn w' (Off own w') A bs:=IntsIn.keep h (alike_refl _ _) (Off.ret ho hs)
theorem BysIn.grow (h:BysIn w (Off own w) A bs) (hb:Below w.heap.size w w'):BysIn w' (Off own w') A bs:=IntsIn.keep h (below_alikeS hb Off.lt) (Off.grow hb.size)
end
end Go.Proofs.Ytlipgnenbdchmaa
end
