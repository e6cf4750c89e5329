/-
  DiskMath, WalM, Elems, Files, Files2, Out, DiskAwakeM, Off
-/
import Derived.Test.YtalhdalinpdanaaGreatDoorMwp04
import Derived.Test.YtalhdalinpdanaaGreatDoorMwp06
import Derived.Maps.AppendAt
import Derived.WalkKit
set_option linter.unusedVariables false
set_option linter.unusedSimpArgs false
section
namespace Go.Proofs.YtalhdalinpdanaaGreatDoor.disk
set_option maxRecDepth 20000
open Go.RowKit
theorem old_cases (nm:ByteArray) (fs:List FileD):(look nm fs=none∧oldOf nm fs=⟨nm,[],0⟩)∨∃ f,look nm fs=some f∧oldOf nm fs=f∧f ∈ fs∧f.name=nm:=by
 unfold oldOf
 cases e:look nm fs with
 |none=>exact .inl ⟨rfl,rfl⟩
 |some f=>exact .inr ⟨f,rfl,rfl,(look_some e).1,(look_some e).2⟩
theorem old_name (nm:ByteArray) (fs:List FileD):(oldOf nm fs).name=nm:=by
 rcases old_cases nm fs with ⟨_,h⟩ | ⟨f,_,h,_,h2⟩<;>rw [h]
 exact h2
theorem first_zero {d:DiskD} {a b:ByteArray} : firstE d a b=0 ↔ rightB d=true∧d.down=false∧named a=true∧named b=true:=by
 unfold firstE
 cases rightB d<;>cases d.down<;>cases named a<;>cases named b<;>simp
theorem first_up {d:DiskD} {a b:ByteArray} (h:rightB d=true) (h2:d.down=false):firstE d a b=if named a && named b then 0 else 1:=by unfold firstE;rw [h,h2];simp
theorem op_cases (d:DiskD) (a b:ByteArray) (pre:Int) (fs:List FileD) (app:Bool) :
  (firstE d a b≠0∧opD d a b pre fs app=(d,firstE d a b))∨(firstE d a b=0∧pre≠0∧opD d a b pre fs app=(d,pre)) ∨
  (firstE d a b=0∧pre=0∧d.fuse=0∧opD d a b pre fs app=(⟨if app then fs else d.files,d.room,0,true⟩,9)) ∨
  (firstE d a b=0∧pre=0∧d.fuse≠0∧opD d a b pre fs app=(⟨fs,d.room,if 0 < d.fuse then d.fuse - 1 else d.fuse,d.down⟩,0)):=by
 unfold opD
 by_cases h1:firstE d a b=0
 ·rw [if_neg (by simpa using h1)]
  by_cases h2:pre=0
  ·rw [if_neg (by simpa using h2)]
   by_cases h3:d.fuse=0
   ·rw [if_pos h3,h3];exact .inr (.inr (.inl ⟨h1,h2,rfl,rfl⟩))
   ·rw [if_neg h3];exact .inr (.inr (.inr ⟨h1,h2,h3,rfl⟩))
  ·rw [if_pos h2];exact .inr (.inl ⟨h1,h2,rfl⟩)
 ·rw [if_pos h1];exact .inl ⟨h1,rfl⟩
def FilesOk (room:Int) (fs:List FileD):Prop:=fs.length≤64∧(∀ f ∈ fs,fileOk f=true)∧Row fs∧(used fs:Int)≤room
theorem right_files {d:DiskD} (h:rightB d=true):FilesOk d.room d.files:=by
 obtain ⟨_,_,h1,h2,h3,h4⟩:=(right_iff d).1 h
 exact ⟨h1,h2,h3,h4⟩
theorem right_op {d:DiskD} {a b:ByteArray} {pre:Int} {fs:List FileD} {app:Bool} (h:rightB d=true) (hf:firstE d a b=0→pre=0→FilesOk d.room fs):rightB (opD d a b pre fs app).1=true:=by
 obtain ⟨r1,r2,r3⟩:=(right_iff d).1 h
 rcases op_cases d a b pre fs app with ⟨_,e⟩ | ⟨_,_,e⟩ | ⟨h1,h2,_,e⟩ | ⟨h1,h2,h3,e⟩<;>rw [e]
 ·exact h
 ·exact h
 ·rw [right_iff]
  refine ⟨r1,by simp,?_⟩
  cases app
  ·exact r3
  ·exact hf h1 h2
 ·rw [right_iff]
  refine ⟨r1,?_,hf h1 h2⟩
  show -1≤if 0 < d.fuse then d.fuse - 1 else d.fuse
  split<;>omega
theorem ok_with {room:Int} {fs:List FileD} {f:FileD} (h:FilesOk room fs) (hf:fileOk f=true)
  (hn:look f.name fs=none→fs.length < 64∧(used fs+f.data.length:Nat)≤room) (ho:∀ g,look f.name fs=some g→(used fs+f.data.length:Nat)≤room+g.data.length):FilesOk room (withF f fs):=by
 obtain ⟨h1,h2,h3,h4⟩:=h
 refine ⟨?_,?_,row_with f h3,?_⟩
 ·cases e:look f.name fs with
  |none=>rw [(with_new f h3 (look_none e)).2];have:=(hn e).1;omega
  |some g=>rw [(with_old f g h3 (look_some e).1 (look_some e).2).2];exact h1
 ·intro g hg
  rcases (mem_with h3).1 hg with rfl | ⟨hg,_⟩
  ·exact hf
  ·exact h2 g hg
 ·cases e:look f.name fs with
  |none=>rw [(with_new f h3 (look_none e)).1];exact (hn e).2
  |some g=>have h5:=(with_old f g h3 (look_some e).1 (look_some e).2).1;have h6:=ho g e;omega
theorem ok_sans {room:Int} {fs:List FileD} (nm:ByteArray) (h:FilesOk room fs):FilesOk room (sans nm fs):=by
 obtain ⟨h1,h2,h3,h4⟩:=h
 exact ⟨Nat.le_trans (sans_length _ _) h1,fun g hg=>h2 g (mem_sans.1 hg).1,row_sans nm h3,by have:=used_sans nm fs;omega⟩
theorem app_zero {d:DiskD} {nm:ByteArray} {b:List Nat} (h:appE d nm b=0):(used d.files+b.length:Nat)≤d.room∧(look nm d.files=none→d.files.length < 64):=by
 unfold appE at h
 split at h
 ·cases h
 ·rename_i hn
  rw [not_or] at hn
  exact ⟨by omega,fun e=>by have:=hn.2;rw [not_and] at this;have:=this e;omega⟩
theorem right_append {d:DiskD} {nm:ByteArray} {b:List Nat} (h:rightB d=true):rightB (appendD d nm b).1=true:=by
 refine right_op h fun h1 h2=>?_
 obtain ⟨a1,a2⟩:=app_zero h2
 obtain ⟨_,_,hnm,_⟩:=first_zero.1 h1
 have hr:=(right_iff d).1 h
 have hf:=right_files h
 unfold appF
 rcases old_cases nm d.files with ⟨e1,e2⟩ | ⟨f,e1,e2,e3,e4⟩
 ·rw [e2]
  refine ok_with hf ?_ (fun _=>⟨a2 e1,by simpa using a1⟩) (fun g hg=>by rw [e1] at hg;cases hg)
  rw [file_iff]
  exact ⟨hnm,by simp,by simp<;>omega,by simp<;>omega⟩
 ·rw [e2]
  have hfo:=(file_iff f).1 (hf.2.1 f e3)
  have hl:f.data.length≤used d.files:=used_mem e3
  refine ok_with hf ?_ (fun e=>by rw [e4,e1] at e;cases e) (fun g hg=>?_)
  ·rw [file_iff]
   refine ⟨by rw [e4];exact hnm,hfo.2.1,?_,?_⟩<;>simp only [List.length_append]<;>omega
  ·rw [e4,e1] at hg
   injection hg with hg
   subst hg
   simp only [List.length_append]
   omega
theorem no_zero {fs:List FileD} {nm:ByteArray} (h:noE fs nm=0):∃ f,look nm fs=some f∧oldOf nm fs=f∧f ∈ fs∧f.name=nm:=by
 rcases old_cases nm fs with ⟨e,_⟩ | h2
 ·unfold noE at h;rw [if_pos e] at h;cases h
 ·exact h2
theorem right_sync {d:DiskD} {nm:ByteArray} (h:rightB d=true):rightB (syncD d nm).1=true:=by
 refine right_op h fun h1 h2=>?_
 obtain ⟨f,e1,e2,e3,e4⟩:=no_zero h2
 have hf:=right_files h
 have hfo:=(file_iff f).1 (hf.2.1 f e3)
 unfold syncF
 rw [e2]
 refine ok_with hf ?_ (fun e=>by rw [e4,e1] at e;cases e) (fun g hg=>?_)
 ·rw [file_iff]
  exact ⟨hfo.1,by simp,by simp,hfo.2.2.2⟩
 ·rw [e4,e1] at hg
  injection hg with hg
  subst hg
  have:=hf.2.2.2
  show ((used d.files+f.data.length:Nat):Int)≤d.room+f.data.length
  omega
theorem right_remove {d:DiskD} {nm:ByteArray} (h:rightB d=true):rightB (removeD d nm).1=true:=right_op h fun _ _=>ok_sans nm (right_files h)
theorem cut_zero {fs:List FileD} {nm:ByteArray} {n:Int} (h:cutE fs nm n=0):∃ f,look nm fs=some f∧oldOf nm fs=f∧f ∈ fs∧f.name=nm∧0≤n∧n≤(f.data.length:Int):=by
 rcases old_cases nm fs with ⟨e,_⟩ | ⟨f,h1,h2,h3,h4⟩
 ·unfold cutE at h;rw [if_pos e] at h;cases h
 ·unfold cutE at h
  rw [h2,if_neg (by rw [h1];simp)] at h
  split at h
  ·cases h
  ·rename_i hn
   exact ⟨f,h1,h2,h3,h4,by omega,by omega⟩
theorem right_cut {d:DiskD} {nm:ByteArray} {n:Int} (h:rightB d=true):rightB (cutD d nm n).1=true:=by
 refine right_op h fun h1 h2=>?_
 obtain ⟨f,e1,e2,e3,e4,e5,e6⟩:=cut_zero h2
 have hf:=right_files h
 have hfo:=(file_iff f).1 (hf.2.1 f e3)
 have hu:=hf.2.2.2
 unfold cutF
 rw [e2]
 refine ok_with hf ?_ (fun e=>by rw [e4,e1] at e;cases e) (fun g hg=>?_)
 ·rw [file_iff]
  refine ⟨hfo.1,?_,?_,?_⟩
  ·show 0≤if n < f.sure then n else f.sure
   split<;>omega
  ·show (if n < f.sure then n else f.sure)≤((f.data.take n.toNat).length:Int)
   rw [List.length_take]
   split<;>omega
  ·show (f.data.take n.toNat).length≤65536
   rw [List.length_take];omega
 ·rw [e4,e1] at hg
  injection hg with hg
  subst hg
  show ((used d.files+(f.data.take n.toNat).length:Nat):Int)≤d.room+f.data.length
  rw [List.length_take];omega
def Has (fs:List FileD) (nm:ByteArray) (was:List Nat):Prop := ∃ f ∈ fs,f.name=nm∧was <+: f.data∧(was.length:Int)≤f.sure
end Go.Proofs.YtalhdalinpdanaaGreatDoor.disk
end
section
namespace Go.Proofs.YtalhdalinpdanaaGreatDoor.wal
set_option maxRecDepth 20000
open Go.Proofs.YtalhdalinpdanaaGreatDoor Go.Proofs.YtalhdalinpdanaaGreatDoor.frame Go.Proofs.YtalhdalinpdanaaGreatDoor.disk
def dg:Nat→Nat→List Nat
 | 0,_=>[]
 |k+1,n=>dg k (n / 10)++[48+n % 10]
def nameL (n:Nat):List Nat:=[108,111,103,46]++dg 10 n
def bytes (l:List Nat):ByteArray:=⟨(l.map Nat.toUInt8).toArray⟩
def nameOf (n:Int):ByteArray:=bytes (nameL n.toNat)
def digit (c:Nat):Bool:=decide (48≤c) && decide (c≤57)
def value (l:List Nat):Nat:=l.foldl (fun a c=>a * 10+(c - 48)) 0
def numL (l:List Nat):Nat:=if l.length=14∧l.take 4=[108,111,103,46]∧(l.drop 4).all digit=true∧value (l.drop 4)≤1000000000 then value (l.drop 4) else 0
def listOf (s:ByteArray):List Nat:=s.data.toList.map UInt8.toNat
def numOf (s:ByteArray):Int:=numL (listOf s)
theorem dg_len (k n:Nat):(dg k n).length=k:=by
 induction k generalizing n with
 |zero=>rfl
 |succ k ih=>simp [dg,ih]
theorem dg_digit (k n:Nat):(dg k n).all digit=true:=by
 induction k generalizing n with
 |zero=>rfl
 |succ k ih =>
  rw [dg,List.all_append,ih,Bool.true_and]
  have:=Nat.mod_lt n (show 0 < 10 by decide)
  simp [digit];omega
theorem value_snoc (l:List Nat) (c:Nat):value (l++[c])=value l * 10+(c - 48):=by simp [value]
theorem dg_value (k n:Nat):value (dg k n)=n % 10 ^ k:=by
 induction k generalizing n with
 |zero=>simp [dg,value,Nat.mod_one]
 |succ k ih =>
  rw [dg,value_snoc,ih]
  have h1:=Nat.div_add_mod n 10
  have h2:=Nat.div_add_mod (n / 10) (10 ^ k)
  have h3:n % 10 ^ (k+1)=(n / 10 % 10 ^ k) * 10+n % 10:=by
   rw [Nat.pow_succ,Nat.mul_comm (10 ^ k) 10,Nat.mod_mul]
   omega
  rw [h3];omega
theorem value_dg:∀ (l:List Nat),l.all digit=true→dg l.length (value l)=l∧value l < 10 ^ l.length:=by
 intro l
 induction hl:l.length generalizing l with
 |zero=>intro _;obtain rfl:=List.eq_nil_of_length_eq_zero hl;exact ⟨rfl,by simp [value]⟩
 |succ k ih =>
  intro h
  obtain ⟨m,c,rfl⟩:∃ m c,l=m++[c]:=⟨l.dropLast,l.getLast (by intro e;rw [e] at hl;cases hl),(List.dropLast_concat_getLast _).symm⟩
  have hm:m.length=k:=by simpa using hl
  rw [List.all_append,Bool.and_eq_true] at h
  obtain ⟨h1,h2⟩:=ih m hm h.1
  have hc:48≤c∧c≤57:=by have:=h.2;simp [digit] at this;exact this
  rw [value_snoc]
  refine ⟨?_,?_⟩
  ·have e1:(value m * 10+(c - 48)) / 10=value m:=by omega
   have e2:(value m * 10+(c - 48)) % 10=c - 48:=by omega
   rw [dg,e1,e2,h1,show 48+(c - 48)=c by omega]
  ·rw [Nat.pow_succ];omega
theorem nameL_len (n:Nat):(nameL n).length=14:=by simp [nameL,dg_len]
theorem numL_name {n:Nat} (h:n≤1000000000):numL (nameL n)=n:=by
 have e:value (dg 10 n)=n:=by rw [dg_value,Nat.mod_eq_of_lt (by omega)]
 have hd:(nameL n).drop 4=dg 10 n:=rfl
 unfold numL
 rw [hd,e,if_pos ⟨nameL_len n,rfl,dg_digit 10 n,h⟩]
theorem numL_is {l:List Nat} (h:0 < numL l):l=nameL (numL l)∧numL l≤1000000000:=by
 unfold numL at h ⊢
 split at h
 ·rename_i g
  rw [if_pos g]
  obtain ⟨h1,h2,h3,h4⟩:=g
  refine ⟨?_,h4⟩
  have:=(value_dg (l.drop 4) h3).1
  rw [List.length_drop,h1] at this
  unfold nameL
  rw [this,← h2,List.take_append_drop]
 ·cases h
theorem listOf_bytes {l:List Nat} (h:∀ x ∈ l,x < 256):listOf (bytes l)=l:=by
 unfold listOf bytes
 simp only [List.map_map]
 exact (List.map_congr_left fun x hx=>by simp [Nat.toUInt8,UInt8.toNat_ofNat,Nat.mod_eq_of_lt (h x hx)]).trans (List.map_id _)
theorem bytes_listOf (s:ByteArray):bytes (listOf s)=s:=by
 obtain ⟨⟨l⟩⟩:=s
 unfold bytes listOf
 simp only [List.map_map]
 have e:l.map (Nat.toUInt8 ∘ UInt8.toNat)=l:=(List.map_congr_left fun x _=>by simp [Nat.toUInt8]).trans (List.map_id _)
 rw [e]
theorem nameL_small (n:Nat):∀ x ∈ nameL n,x < 256:=fun x hx=>by
 unfold nameL at hx
 rcases List.mem_append.1 hx with hx | hx
 ·simp at hx;omega
 ·have:=List.all_eq_true.1 (dg_digit 10 n) x hx
  simp [digit] at this;omega
theorem numOf_name {n:Int} (h0:0≤n) (h:n≤1000000000):numOf (nameOf n)=n:=by
 unfold numOf nameOf
 rw [listOf_bytes (nameL_small _),numL_name (by omega)]
 omega
theorem numOf_is {s:ByteArray} (h:0 < numOf s):s=nameOf (numOf s)∧numOf s≤1000000000:=by
 unfold numOf at h ⊢
 obtain ⟨h1,h2⟩:=numL_is (l:=listOf s) (by omega)
 refine ⟨?_,by omega⟩
 unfold nameOf
 rw [Int.toNat_natCast,← h1,bytes_listOf]
structure Wl where
 (e n u g c:Int) (ws:List Fr)
 deriving DecidableEq
def wz:Wl:=⟨0,0,0,0,0,[]⟩
def segs (d:DiskD):List Int:=if rightB d=true then (d.files.map fun f=>numOf f.name).filter fun n=>decide (0 < n) else []
def right (w:Wl):Bool :=
 decide (1≤w.e∧w.e≤1000000∧1≤w.n∧w.n≤1000000001∧0≤w.u∧w.u≤w.n - 1∧w.ws.length≤32∧(w.ws.length:Int)=w.n - w.u - 1) && scan.row w.ws (w.u+1) 0 && w.ws.all (fun f=>decide (f.e=w.e)) &&
  decide ((w.g=0∧w.c=0)∨(1≤w.g∧w.g≤1000000001∧1≤w.c∧w.c≤8∧w.g+w.c=w.u+1))
def putW (w:Wl) (k b0 b1 b2 b3 b4 b5:Int):Wl × Int :=
 if right w=false∨k < 1∨6 < k then (w,1) else if 1000000000 < w.n then (w,3) else if 32≤w.ws.length then (w,6)
 else ({ w with ws:=w.ws++[⟨w.e,w.n,k,b0,b1,b2,b3,b4,b5⟩],n:=w.n+1 },0)
def begun (w:Wl):Wl:=if w.g=0∨w.c=8 then { w with g:=w.u+1,c:=0 } else w
def room (w:Wl):Nat:=min w.ws.length (8 - (begun w).c).toNat
def stepW (w:Wl):Wl:={ begun w with c:=(begun w).c+room w,u:=w.u+room w,ws:=w.ws.drop (room w) }
end Go.Proofs.YtalhdalinpdanaaGreatDoor.wal
end
section
namespace Go.Proofs.YtalhdalinpdanaaGreatDoor
set_option maxRecDepth 20000
open Go.RowKit
def Each {α:Type} (R:Rd α) (size:Nat) (w:World) (S:Nat→Prop):List (List Value)→List α→Prop
 | [],[]=>True
 |cs :: css,x :: xs=>cs.length=size∧R w S cs x∧Each R size w S css xs
 | _,_=>False
section
variable {α:Type} {R:Rd α} {size:Nat} {w w' : World} {S S' : Nat→Prop}
theorem Each.len {css:List (List Value)} {xs:List α} (h:Each R size w S css xs):css.length=xs.length∧css.flatten.length=xs.length * size:=by
 induction css generalizing xs with
 |nil=>cases xs with
  |nil=>simp
  |cons _ _=>cases h
 |cons cs css ih=>cases xs with
  |nil=>cases h
  |cons x xs =>
   have:=ih h.2.2
   simp only [List.length_cons,List.flatten_cons,List.length_append,h.1,this.1,this.2,Nat.succ_mul]
   exact ⟨trivial,by omega⟩
theorem Each.at_ {css:List (List Value)} {xs:List α} (h:Each R size w S css xs) {j:Nat} {x:α} (hj:xs[j]?=some x):∃ cs,cs.length=size∧(∀ i c,cs[i]?=some c→css.flatten[j * size+i]?=some c)∧R w S cs x:=by
 induction css generalizing xs j with
 |nil=>cases xs with
  |nil=>simp at hj
  |cons _ _=>cases h
 |cons cs css ih=>cases xs with
  |nil=>cases h
  |cons y xs =>
   cases j with
   |zero =>
    simp at hj;subst hj
    refine ⟨cs,h.1,fun i c hi=>?_,h.2.1⟩
    rw [List.flatten_cons,Nat.zero_mul,Nat.zero_add,List.getElem?_append_left (List.getElem?_eq_some_iff.1 hi).1]
    exact hi
   |succ j =>
    obtain ⟨cs',hl,hc,hr⟩:=ih h.2.2 (j:=j) (by simpa using hj)
    refine ⟨cs',hl,fun i c hi=>?_,hr⟩
    rw [List.flatten_cons,List.getElem?_append_right (by rw [h.1,Nat.succ_mul];omega),h.1,show (j+1) * size+i - size=j * size+i by rw [Nat.succ_mul];omega]
    exact hc i c hi
theorem Each.keep (hR:Keeps R) {css:List (List Value)} {xs:List α} (h:Each R size w S css xs) (hc:Alike S w w') (hS:∀ b,S b→S' b):Each R size w' S' css xs:=by
 induction css generalizing xs with
 |nil=>cases xs with
  |nil=>trivial
  |cons _ _=>cases h
 |cons cs css ih=>cases xs with
  |nil=>cases h
  |cons x xs=>exact ⟨h.1,hR _ _ _ _ _ _ h.2.1 hc hS,ih h.2.2⟩
theorem Each.append {css dss:List (List Value)} {xs ys:List α} (h:Each R size w S css xs) (g:Each R size w S dss ys):Each R size w S (css++dss) (xs++ys):=by
 induction css generalizing xs with
 |nil=>cases xs with
  |nil=>exact g
  |cons _ _=>cases h
 |cons cs css ih=>cases xs with
  |nil=>cases h
  |cons x xs=>exact ⟨h.1,h.2.1,ih h.2.2⟩
theorem Each.leaf (hL:Leaf R) {css:List (List Value)} {xs:List α} (h:Each R size w S css xs):∀ c ∈ css.flatten,c.oneCell'=true:=by
 induction css generalizing xs with
 |nil=>simp
 |cons cs css ih=>cases xs with
  |nil=>cases h
  |cons x xs =>
   intro c hc
   rw [List.flatten_cons] at hc
   rcases List.mem_append.1 hc with h1 | h1
   ·exact hL _ _ _ _ h.2.1 c h1
   ·exact ih h.2.2 c h1
theorem Elems.each {A:Option Addr} {xs:List α} (h:Elems R size w S A xs):∃ css,Each R size w S css xs∧(0 < xs.length→∃ b off,A=some ⟨b,off,none⟩∧S b∧∀ j c,css.flatten[j]?=some c→w.cell? ⟨b,off+j,none⟩=some c):=by
 by_cases h0:0 < xs.length
 ·obtain ⟨b,off,e,hb,hc⟩:=h h0
  have key:∀ (ys:List α) (k:Nat),(∀ j x,ys[j]?=some x→xs[k+j]?=some x)→∃ css,Each R size w S css ys∧∀ j c,css.flatten[j]?=some c→w.cell? ⟨b,off+k * size+j,none⟩=some c:=by
   intro ys
   induction ys with
   |nil=>intro k _;exact ⟨[],trivial,by simp⟩
   |cons y ys ih =>
    intro k hk
    obtain ⟨cs,hl,hcs,hr⟩:=hc k y (hk 0 y rfl)
    obtain ⟨css,h1,h2⟩:=ih (k+1) (fun j x hj=>by have:=hk (j+1) x (by simpa using hj);rw [show k+1+j=k+(j+1) by omega];exact this)
    refine ⟨cs :: css,⟨hl,hr,h1⟩,fun j c hj=>?_⟩
    rw [List.flatten_cons] at hj
    by_cases hlt:j < cs.length
    ·rw [List.getElem?_append_left hlt] at hj
     exact hcs j c hj
    ·rw [List.getElem?_append_right (by omega)] at hj
     have:=h2 (j - cs.length) c hj
     rw [show off+(k+1) * size+(j - cs.length)=off+k * size+j by rw [Nat.succ_mul];omega] at this
     exact this
  obtain ⟨css,h1,h2⟩:=key xs 0 (fun j x hj=>by simpa using hj)
  exact ⟨css,h1,fun _=>⟨b,off,e,hb,fun j c hj=>by simpa using h2 j c hj⟩⟩
 ·have:xs=[]:=List.eq_nil_of_length_eq_zero (by omega)
  subst this
  exact ⟨[],trivial,fun h=>absurd h h0⟩
end
def OwnElems {α:Type} (R:Rd α) (size:Nat) (w:World) (base:Nat) (e:TypeId) (S:Nat→Prop) (A:Option Addr) (n c:Nat) (xs:List α):Prop :=
 ∃ css,w.ownsRow base e size (.slice A n c) n css.flatten∧Each R size w S css xs∧xs.length=n
section
variable {α:Type} {R:Rd α} {size:Nat} {w w' : World} {base:Nat} {e:TypeId} {S S' : Nat→Prop} {A:Option Addr} {n c:Nat} {xs:List α}
theorem OwnElems.nil:OwnElems R size w base e S none 0 0 ([]:List α):=⟨[],World.ownsRow_nil _ _ _ _,trivial,rfl⟩
theorem OwnElems.len (h:OwnElems R size w base e S A n c xs):xs.length=n:=by obtain ⟨_,_,_,h3⟩:=h;exact h3
theorem OwnElems.block (h:OwnElems R size w base e S A n c xs):∀ g,(Value.slice A n c).ownBlock=some g→base≤g∧g < w.heap.size:=by obtain ⟨_,h1,_,_⟩:=h;exact h1.lt
theorem OwnElems.alloc (hR:Keeps R) (h:OwnElems R size w base e S A n c xs) (hS:∀ b,S b→b < w.heap.size) (o:Obj):OwnElems R size (w.alloc o) base e S A n c xs:=by
 obtain ⟨css,h1,h2,h3⟩:=h
 exact ⟨css,h1.alloc o,h2.keep hR (fun b o' hb=>World.cell?_alloc_lt w o _ (hS b hb)) (fun _ h=>h),h3⟩
theorem OwnElems.drew (hR:Keeps R) (h:OwnElems R size w base e S A n c xs):OwnElems R size w.drew base e S A n c xs:=by
 obtain ⟨css,h1,h2,h3⟩:=h
 exact ⟨css,h1,h2.keep hR (fun _ _ _=>rfl) (fun _ h=>h),h3⟩
theorem OwnElems.drewN (hR:Keeps R) (h:OwnElems R size w base e S A n c xs) (m:Nat):OwnElems R size (w.drewN m) base e S A n c xs:=by
 obtain ⟨css,h1,h2,h3⟩:=h
 exact ⟨css,h1,h2.keep hR (fun _ _ _=>rfl) (fun _ h=>h),h3⟩
theorem OwnElems.cap (h:OwnElems R size w base e S A n c xs):n≤c∧c≤maxLen:=by
 obtain ⟨css,h1,_,_⟩:=h
 rcases h1.2 with ⟨hv,h0⟩ | ⟨g,cap,cur,hv,_,_,h2,h3,_⟩
 ·simp only [Value.slice.injEq] at hv
  obtain ⟨_,rfl,rfl⟩:=hv
  exact ⟨Nat.le_refl _,by unfold maxLen;omega⟩
 ·simp only [Value.slice.injEq,true_and] at hv
  obtain ⟨_,rfl⟩:=hv
  exact ⟨h2,h3⟩
theorem OwnElems.elems (hR:Keeps R) (hs:0 < size) (h:OwnElems R size w base e S A n c xs) (hS:∀ b,S b→S' b) (hown:∀ g,base≤g→g < w.heap.size→S' g):Elems R size w S' A xs:=fun h0=>by
 obtain ⟨css,h1,h2,h3⟩:=h
 obtain ⟨g,cap,hv,hb,hlt⟩:=World.ownsRow.form h1 (by omega)
 have hA:A=some ⟨g,0,none⟩:=by injection hv
 subst hA
 refine ⟨g,0,rfl,hown g hb hlt,fun j x hj=>?_⟩
 obtain ⟨cs,hl,hc,hr⟩:=h2.at_ hj
 refine ⟨cs,hl,fun i c hi=>?_,hR _ _ _ _ _ _ hr (alike_refl _ _) hS⟩
 have h4:=hc i c hi
 have hj' : j < n:=by have:=(List.getElem?_eq_some_iff.1 hj).1;omega
 have hi' : i < size:=by have:=(List.getElem?_eq_some_iff.1 hi).1;omega
 have hlt2:j * size+i < n * size:=by
  have:(j+1) * size≤n * size:=Nat.mul_le_mul_right _ (by omega)
  rw [Nat.succ_mul] at this
  omega
 rw [Nat.zero_add,World.ownsRow.cellAt h1 (j * size+i) hlt2]
 exact h4
end
theorem block_cell {w:World} {g:Nat} {cs:Array Value} {t:TypeId} (h:w.heap[g]?=some (.cells cs t (0,0))) (i:Nat) (v:Value) (hv:cs[i]?=some v):w.cell? ⟨g,i,none⟩=some v∧w.frozen? ⟨g,i,none⟩=false :=
 ⟨(cell_of_row w g i cs t (0,0) h).trans hv,frozen_of_row w g i cs t h⟩
theorem each_one {α:Type} {R:Rd α} {size:Nat} {w:World} {S:Nat→Prop} {cs:List Value} {x:α} (hl:cs.length=size) (h:R w S cs x):Each R size w S [cs] [x]:=⟨hl,h,trivial⟩
theorem cells_new {w:World} {t:TypeId} {cs:Array Value} {l:List Value} (he:cs.toList=l) (m:Nat) :
  0 < m→∃ b off,(some ⟨w.heap.size,0,none⟩:Option Addr)=some ⟨b,off,none⟩∧∀ j c,[l].flatten[j]?=some c→(w.alloc (.cells cs t)).cell? ⟨b,off+j,none⟩=some c:=fun _ =>
 ⟨w.heap.size,0,rfl,fun j c hj=>by
  rw [Nat.zero_add,cell_of_row (w.alloc (.cells cs t)) w.heap.size j cs t (0,0) (heap_alloc_new w _),← Array.getElem?_toList,he]
  simpa using hj⟩
theorem run_append_elems {P:Program} {w:World} {α:Type} {R:Rd α} (hR:Keeps R) (hL:Leaf R) {size:Nat} (hsz0:0 < size) (base:Nat) (t ty e:TypeId) (z:Value) (bytes:Nat) (ht:P.underlying t=some (.slice e))
  (hinfo:(P.info? e).map (fun i=>(i.zero,i.size,i.bytes))=some (some z,size,bytes)) (hzs:z.cells.size=size)
  {S:Nat→Prop} {A:Option Addr} {n c:Nat} {xs:List α} (hown:OwnElems R size w base e S A n c xs) {S3:Nat→Prop} {A2:Option Addr} {m c2:Nat} {ys:List α} {dss:List (List Value)} (heach2:Each R size w S3 dss ys) (hcells:0 < m→∃ b off,A2=some ⟨b,off,none⟩∧∀ j c,dss.flatten[j]?=some c→w.cell? ⟨b,off+j,none⟩=some c) (hm:ys.length=m)
  (h13:∀ b,S b→S3 b) (h3:∀ b,S3 b→b < w.heap.size∧some b≠(Value.slice A n c).ownBlock)
  (h63:n+m≤maxLen) (hbytes:(n+m) * bytes≤140737488355328) (hbase:base≤w.heap.size) :
  ∃ A' c' w',(Builtin.append_ #[t,t] ty #[.slice A n c,.slice A2 m c2]).run P w = .ok (.slice A' (n+m) c') w'∧OwnElems R size w' base e S3 A' (n+m) c' (xs++ys) ∧
   w.grownBy w' (Value.slice A n c).ownBlock∧((Value.slice A' (n+m) c').ownBlock=(Value.slice A n c).ownBlock∨(Value.slice A' (n+m) c').ownBlock=some w.heap.size):=by
 obtain ⟨i,hi,hz,hsz,hby⟩:=info_parts hinfo
 obtain ⟨css,hrow,heach,hlen⟩:=hown
 have hall:Each R size w S3 (css++dss) (xs++ys):=(heach.keep hR (alike_refl _ _) h13).append heach2
 have hkeep:∀ w',w.grownBy w' (Value.slice A n c).ownBlock→Each R size w' S3 (css++dss) (xs++ys):=fun w' hg =>
  hall.keep hR (fun b o hb=>World.cell?_of_block (hg.block b (h3 b hb).1 (h3 b hb).2)) (fun _ h=>h)
 have hxl:(xs++ys).length=n+m:=by rw [List.length_append,hlen,hm]
 by_cases h0:m=0
 ·subst h0
  have hys0:ys=[]:=List.eq_nil_of_length_eq_zero hm
  subst hys0
  have hd0:dss=[]:=List.eq_nil_of_length_eq_zero (by have:=heach2.len.1;simpa using this)
  subst hd0
  rw [List.append_nil] at hkeep
  rcases A2 with _ | ad
  ·refine ⟨A,c,w,run_append_no_address base t ty e i size ht hi _ n _ hrow c2,⟨css,by simpa using hrow,?_,hxl⟩,World.grownBy.refl w _,.inl rfl⟩
   exact hkeep w (World.grownBy.refl w _)
  ·obtain ⟨v',w',hrun,h2,h3',_,h5⟩:=run_append_own_at (P:=P) w base t ty e i z size bytes ht hi hz hsz hby hzs hsz0 _ n _ hrow ad 0 c2 [] (by simp) (by simp) (by simp) h63 hbytes hbase
   have hf:=h2
   rcases h2.2 with ⟨rfl,hn0⟩ | ⟨g,cap,cur,rfl,_⟩
   ·refine ⟨none,0,w',by rw [hrun,hn0],⟨css,?_,hkeep w' h3',hxl⟩,h3',?_⟩
    ·rw [hn0] at hf ⊢;simpa using hf
    ·rw [hn0];exact h5
   ·exact ⟨some ⟨g,0,none⟩,cap,w',hrun,⟨css,by simpa using hf,hkeep w' h3',hxl⟩,h3',h5⟩
 ·obtain ⟨b,off,rfl,hc⟩:=hcells (by omega)
  obtain ⟨v',w',hrun,h2,h3',_,h5⟩:=run_append_own_at (P:=P) w base t ty e i z size bytes ht hi hz hsz hby hzs hsz0 _ n _ hrow ⟨b,off,none⟩ m c2 dss.flatten (by rw [heach2.len.2,hm])
   (by
    intro j u hj
    rw [← hc j u hj]
    by_cases hj0:j=0<;>simp [Addr.add,hj0])
   (heach2.leaf hL) h63 hbytes hbase
  obtain ⟨g,cap,rfl,_,_⟩:=World.ownsRow.form h2 (by omega)
  exact ⟨_,_,w',hrun,⟨css++dss,by rw [List.flatten_append];exact h2,hkeep w' h3',hxl⟩,h3',h5⟩
theorem wpList_append_elems {P:Program} {w:World} {ops:Array Oper} {rest:List Oper} {o:Oper} {a:Act} {Q:Exit→Act→World→Prop} (hgd:o.guard=none) (s x:Operand) (t:TypeId)
  (ho:o.op = .call { callee:=.builtin .append,args:=#[s,x],argTypes:=#[t,t] })
  {α:Type} {R:Rd α} (hR:Keeps R) (hL:Leaf R) {size:Nat} (hsz0:0 < size) (base:Nat) (e:TypeId) (z:Value) (bytes:Nat) (ht:P.underlying t=some (.slice e))
  (hinfo:(P.info? e).map (fun i=>(i.zero,i.size,i.bytes))=some (some z,size,bytes)) (hzs:z.cells.size=size)
  {S:Nat→Prop} {A:Option Addr} {n c:Nat} {xs:List α} (hs:a.eval s = .slice A n c) (hown:OwnElems R size w base e S A n c xs)
  {S3:Nat→Prop} {A2:Option Addr} {m c2:Nat} {ys:List α} {dss:List (List Value)} (hx:a.eval x = .slice A2 m c2) (heach2:Each R size w S3 dss ys) (hcells:0 < m→∃ b off,A2=some ⟨b,off,none⟩∧∀ j c,dss.flatten[j]?=some c→w.cell? ⟨b,off+j,none⟩=some c) (hm:ys.length=m)
  (h13:∀ b,S b→S3 b) (h3:∀ b,S3 b→b < w.heap.size∧some b≠(Value.slice A n c).ownBlock)
  (h63:n+m≤maxLen) (hbytes:(n+m) * bytes≤140737488355328) (hbase:base≤w.heap.size)
  (h:∀ A' c' w',OwnElems R size w' base e S3 A' (n+m) c' (xs++ys)→w.grownBy w' (Value.slice A n c).ownBlock →
   ((Value.slice A' (n+m) c').ownBlock=(Value.slice A n c).ownBlock∨(Value.slice A' (n+m) c').ownBlock=some w.heap.size)→wpList P ops Q rest (a.put o.dst (.slice A' (n+m) c')) w') :
  wpList P ops Q (o :: rest) a w:=by
 refine wpList_plain hgd fun K hK=>?_
 obtain ⟨A',c',w',hr',h2,h3',h4⟩:=run_append_elems (P:=P) (w:=w) hR hL hsz0 base t o.type e z bytes ht hinfo hzs hown heach2 hcells hm h13 h3 (c2:=c2) h63 hbytes hbase
 unfold Oper.wp execOp
 simp only [ho,resolve,invoke,builtin,Sem.run_bind,Sem.run_pure,Result.andThen_ok,List.map_toArray,List.map_cons,List.map_nil,hs,hx,hr']
 exact hK _ _ (h A' c' w' h2 h3' h4)
end Go.Proofs.YtalhdalinpdanaaGreatDoor
end
section
namespace Go.Proofs.YtalhdalinpdanaaGreatDoor
set_option maxRecDepth 20000
open Go.RowKit
end Go.Proofs.YtalhdalinpdanaaGreatDoor
end
section
namespace Go.Proofs.YtalhdalinpdanaaGreatDoor
set_option maxRecDepth 20000
open Go.RowKit
end Go.Proofs.YtalhdalinpdanaaGreatDoor
end
section
namespace Go.Proofs.YtalhdalinpdanaaGreatDoor
set_option maxRecDepth 20000
open Go.RowKit
def Out (S:Nat→Prop) (w w' : World):Nat→Prop:=fun b=>S b∨(w.heap.size≤b∧b < w'.heap.size)
theorem Out.lt {S:Nat→Prop} {w w' : World} (hS:∀ b,S b→b < w.heap.size) (hs:w.heap.size≤w'.heap.size):∀ b,Out S w w' b→b < w'.heap.size:=fun b h=>by
 rcases h with h | h
 ·have:=hS b h;omega
 ·exact h.2
theorem Out.mk {S:Nat→Prop} {w w' : World} : ∀ b,S b→Out S w w' b:=fun _ h=>.inl h
theorem below_alikeS {S:Nat→Prop} {B:Nat} {w w' : World} (h:Below B w w') (hS:∀ b,S b→b < B):Alike S w w':=fun b o hb=>h.cell (p:=⟨b,o,none⟩) (hS b hb)
theorem BysIn.below {S:Nat→Prop} {B:Nat} {w w' : World} {A:Option Addr} {bs:List Nat} (h:BysIn w S A bs) (hS:∀ b,S b→b < B) (hb:Below B w w'):BysIn w' S A bs:=IntsIn.keep h (below_alikeS hb hS) (fun _ h=>h)
theorem FilesIn.below {S:Nat→Prop} {B:Nat} {w w' : World} {A:Option Addr} {fs:List FileD} (h:FilesIn w S A fs) (hS:∀ b,S b→b < B) (hb:Below B w w'):FilesIn w' S A fs:=Elems.keep keeps_file h (below_alikeS hb hS) (fun _ h=>h)
theorem FilesIn.more {S S' : Nat→Prop} {w:World} {A:Option Addr} {fs:List FileD} (h:FilesIn w S A fs) (hS:∀ b,S b→S' b):FilesIn w S' A fs:=Elems.keep keeps_file h (alike_refl _ _) hS
theorem FilesIn.files {S:Nat→Prop} {B:Nat} {w w' : World} {A:Option Addr} {fs:List FileD} (h:FilesIn w S A fs) (hS:∀ b,S b→b < B) (hb:Below B w w'):Files w' B A fs:=(h.below hS hb).more hS
theorem FilesIn.at_ {w:World} {S:Nat→Prop} {A:Option Addr} {fs:List FileD} (h:FilesIn w S A fs) {j:Nat} (hj:j < fs.length) :
  ∃ b off f A' n c,A=some ⟨b,off,none⟩∧S b∧Hid (fs[j]?=some f)∧w.cell? ⟨b,off+j * 3,none⟩=some (.string f.name)∧w.cell? ⟨b,off+j * 3+1,none⟩=some (.slice A' n c)∧w.cell? ⟨b,off+j * 3+2,none⟩=some (.int .i64 f.sure) ∧
   f.name.size≤maxLen∧BysIn w S A' f.data∧Hid (f.data.length=n)∧n≤c∧c≤maxLen∧inI f.sure:=by
 obtain ⟨b,off,e,hb,hc⟩:=h (by omega)
 obtain ⟨cs,hl,hcs,A',n,c,rfl,h1,h2,h3,h4,h5,h6⟩:=hc j fs[j] (List.getElem?_eq_getElem hj)
 exact ⟨b,off,fs[j],A',n,c,e,hb,Lib.hid (List.getElem?_eq_getElem hj),hcs 0 _ rfl,hcs 1 _ rfl,hcs 2 _ rfl,h1,h2,Lib.hid h3,h4,h5,inI_of_wf h6⟩
theorem heap_set4 {w:World} {g b:Nat} (v0 v1 v2 v3:Value) (h:b≠g):((((w.setCell ⟨g,0,none⟩ v0).setCell ⟨g,1,none⟩ v1).setCell ⟨g,2,none⟩ v2).setCell ⟨g,3,none⟩ v3).heap[b]?=w.heap[b]?:=by
 rw [Below.heap_setCell _ _ _ _ h,Below.heap_setCell _ _ _ _ h,Below.heap_setCell _ _ _ _ h,Below.heap_setCell _ _ _ _ h]
theorem heap_set4_self {w:World} {g:Nat} {a0 a1 a2 a3:Value} {T:TypeId} (v0 v1 v2 v3:Value) (h:w.heap[g]?=some (.cells #[a0,a1,a2,a3] T (0,0))) :
  ((((w.setCell ⟨g,0,none⟩ v0).setCell ⟨g,1,none⟩ v1).setCell ⟨g,2,none⟩ v2).setCell ⟨g,3,none⟩ v3).heap[g]?=some (.cells #[v0,v1,v2,v3] T (0,0)):=by
 have h0:=heap_setCell_same w g 0 _ T v0 h
 have h1:=heap_setCell_same _ g 1 _ T v1 h0
 have h2:=heap_setCell_same _ g 2 _ T v2 h1
 exact heap_setCell_same _ g 3 _ T v3 h2
theorem below_set4 {B:Nat} {w0 w:World} {g:Nat} (hb:Below B w0 w) (h:B≤g) (v0 v1 v2 v3:Value):Below B w0 ((((w.setCell ⟨g,0,none⟩ v0).setCell ⟨g,1,none⟩ v1).setCell ⟨g,2,none⟩ v2).setCell ⟨g,3,none⟩ v3) :=
 (((hb.setCell (p:=⟨g,0,none⟩) h _).setCell (p:=⟨g,1,none⟩) h _).setCell (p:=⟨g,2,none⟩) h _).setCell (p:=⟨g,3,none⟩) h _
theorem size_set4 (w:World) (g:Nat) (v0 v1 v2 v3:Value):((((w.setCell ⟨g,0,none⟩ v0).setCell ⟨g,1,none⟩ v1).setCell ⟨g,2,none⟩ v2).setCell ⟨g,3,none⟩ v3).heap.size=w.heap.size:=by simp [World.setCell]
theorem alike_set4 {S:Nat→Prop} {w:World} {g:Nat} (h:¬ S g) (v0 v1 v2 v3:Value):Alike S w ((((w.setCell ⟨g,0,none⟩ v0).setCell ⟨g,1,none⟩ v1).setCell ⟨g,2,none⟩ v2).setCell ⟨g,3,none⟩ v3):=fun b o hb =>
 World.cell?_of_block (heap_set4 v0 v1 v2 v3 (fun e=>h (e▸hb)))
end Go.Proofs.YtalhdalinpdanaaGreatDoor
end
section
namespace Go.Proofs.YtalhdalinpdanaaGreatDoor.disk
set_option maxRecDepth 20000
open Go.RowKit
end Go.Proofs.YtalhdalinpdanaaGreatDoor.disk
end
section
namespace Go.Proofs.YtalhdalinpdanaaGreatDoor
set_option maxRecDepth 20000
open Go.RowKit
def Off (own:List Nat) (w:World):Nat→Prop:=fun b=>b < w.heap.size∧b ∉ own
theorem Off.lt {own:List Nat} {w:World} : ∀ b,Off own w b→b < w.heap.size:=fun _ h=>h.1
theorem Off.ret {own:List Nat} {w w' : World} (ho:∀ g ∈ own,g < w.heap.size) (hs:w.heap.size≤w'.heap.size):∀ b,Out (Off own w) w w' b→Off own w' b:=fun b h=>by
 rcases h with h | h
 ·exact ⟨Nat.lt_of_lt_of_le h.1 hs,h.2⟩
 ·exact ⟨h.2,fun hm=>by have:=ho b hm;omega⟩
theorem Off.grow {own:List Nat} {w w' : World} (hs:w.heap.size≤w'.heap.size):∀ b,Off own w b→Off own w' b:=fun b h=>⟨Nat.lt_of_lt_of_le h.1 hs,h.2⟩
theorem Off.cons {own:List Nat} {w w' : World} (hs:w.heap.size≤w'.heap.size) {g:Nat} (hg:w.heap.size≤g):∀ b,Off own w b→Off (g :: own) w' b:=fun b h =>
 ⟨Nat.lt_of_lt_of_le h.1 hs,fun hm=>by
  rcases List.mem_cons.1 hm with e | hm
  ·have:=h.1;omega
  ·exact h.2 hm⟩
section
variable {own:List Nat} {w w' : World} {A:Option Addr} {fs:List FileD} {bs:List Nat}
theorem FilesIn.off (h:FilesIn w (Lt w.heap.size) A fs):FilesIn w (Off [] w) A fs:=h.more (fun b h=>⟨h,by simp⟩)
theorem FilesIn.ret (h:FilesIn w' (Out (Off own w) w w') A fs) (ho:∀ g ∈ own,g < w.heap.size) (hs:w.heap.size≤w'.heap.size):FilesIn w' (Off own w') A fs:=h.more (Off.ret ho hs)
theorem FilesIn.grow (h:FilesIn w (Off own w) A fs) (hb:Below w.heap.size w w'):FilesIn w' (Off own w') A fs:=(h.below Off.lt hb).more (Off.grow hb.size)
theorem FilesIn.alloc (h:FilesIn w (Off own w) A fs) (o:Obj):FilesIn (w.alloc o) (Off own (w.alloc o)) A fs:=h.grow ((Below.refl _ _).alloc (Nat.le_refl _) o)
theorem FilesIn.drew (h:FilesIn w (Off own w) A fs):FilesIn w.drew (Off own w.drew) A fs:=h
theorem FilesIn.drewN (h:FilesIn w (Off own w) A fs) (m:Nat):FilesIn (w.drewN m) (Off own (w.drewN m)) A fs:=Elems.keep keeps_file h (fun _ _ _=>rfl) (fun _ h=>h)
theorem BysIn.off (h:BysIn w (Lt w.heap.size) A bs):BysIn w (Off [] w) A bs:=IntsIn.keep h (alike_refl _ _) (fun b h=>⟨h,by simp⟩)
theorem BysIn.ret (h:BysIn w' (Out (Off own w) w w') A bs) (ho:∀ g ∈ own,g < w.heap.size) (hs:w.heap.size≤w'.heap.size):BysIn w' (Off own w') A bs:=IntsIn.keep h (alike_refl _ _) (Off.ret ho hs)
theorem BysIn.grow (h:BysIn w (Off own w) A bs) (hb:Below w.heap.size w w'):BysIn w' (Off own w') A bs:=IntsIn.keep h (below_alikeS hb Off.lt) (Off.grow hb.size)
end
end Go.Proofs.YtalhdalinpdanaaGreatDoor
end
