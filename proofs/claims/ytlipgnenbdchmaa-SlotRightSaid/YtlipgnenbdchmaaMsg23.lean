/-
  DiskImpl3
-/
import Derived.Test.YtlipgnenbdchmaaMsg22
import Derived.Lib.Bytealg
import Derived.Laws.Externs
set_option linter.unusedVariables false
set_option linter.unusedSimpArgs false
namespace Go.Proofs.Ytlipgnenbdchmaa.disk
set_option maxRecDepth 20000
open Go.RowKit
def placeN (nm:ByteArray) (fs:List FileD):Nat:=(ahead nm fs).length
theorem place_of {nm:ByteArray} {fs:List FileD} {k:Nat} (hk:k≤fs.length) (h:∀ (t:Nat) f,fs[t]?=some f→(t < k→nlt f.name nm)∧(k≤t→¬ nlt f.name nm)):placeN nm fs=k:=by
 unfold placeN ahead
 conv=>lhs;rw [← List.take_append_drop k fs]
 rw [List.filter_append,List.length_append]
 have h1:(fs.take k).filter (fun g=>decide (nlt g.name nm))=fs.take k:=by
  rw [List.filter_eq_self]
  intro f hf
  obtain ⟨t,ht,rfl⟩:=List.getElem_of_mem hf
  have htk:t < k:=by rw [List.length_take] at ht;omega
  rw [List.getElem_take]
  exact decide_eq_true ((h t _ (List.getElem?_eq_getElem (by omega))).1 htk)
 have h2:(fs.drop k).filter (fun g=>decide (nlt g.name nm))=[]:=by
  rw [List.filter_eq_nil_iff]
  intro f hf
  obtain ⟨t,ht,rfl⟩:=List.getElem_of_mem hf
  rw [List.length_drop] at ht
  rw [List.getElem_drop]
  simpa using (h (k+t) _ (List.getElem?_eq_getElem (by omega))).2 (by omega)
 rw [h1,h2,List.length_take]
 simp
 omega
theorem place_le (nm:ByteArray) (fs:List FileD):placeN nm fs≤fs.length:=List.length_filter_le _ _
theorem row_lt {fs:List FileD} (h:Row fs) {i j:Nat} {f g:FileD} (hi:fs[i]?=some f) (hj:fs[j]?=some g) (hij:i < j):nlt f.name g.name:=by
 obtain ⟨h1,rfl⟩:=List.getElem?_eq_some_iff.1 hi
 obtain ⟨h2,rfl⟩:=List.getElem?_eq_some_iff.1 hj
 exact List.pairwise_iff_getElem.1 h i j h1 h2 hij
theorem place_spec {nm:ByteArray} {fs:List FileD} (h:Row fs):∀ (t:Nat) f,fs[t]?=some f→(t < placeN nm fs→nlt f.name nm)∧(placeN nm fs≤t→¬ nlt f.name nm):=by
 induction fs with
 |nil=>intro t f hf;simp at hf
 |cons g fs ih =>
  obtain ⟨h1,h2⟩:=List.pairwise_cons.1 h
  intro t f hf
  unfold placeN at ih ⊢
  rw [ahead_cons]
  by_cases hg:nlt g.name nm
  ·rw [if_pos hg]
   cases t with
   |zero=>simp at hf;subst hf;exact ⟨fun _=>hg,fun h3=>by simp at h3⟩
   |succ t =>
    have:=ih h2 t f (by simpa using hf)
    simp only [List.length_cons]
    exact ⟨fun h3=>this.1 (by omega),fun h3=>this.2 (by omega)⟩
  ·rw [if_neg hg]
   have h0:ahead nm fs=[]:=by
    unfold ahead
    rw [List.filter_eq_nil_iff]
    intro x hx
    simpa using fun h3=>hg (nlt_trans (h1 x hx) h3)
   rw [h0]
   refine ⟨fun h3=>by simp at h3,fun _=>?_⟩
   cases t with
   |zero=>simp at hf;subst hf;exact hg
   |succ t =>
    have hm:f ∈ fs:=List.mem_of_getElem? (by simpa using hf)
    exact fun h3=>hg (nlt_trans (h1 f hm) h3)
theorem place_there {nm:ByteArray} {fs:List FileD} (h:Row fs) {k:Nat} {f:FileD} (hf:fs[k]?=some f) (e:f.name=nm):look nm fs=some f:=by
 rw [← e];exact look_of h (List.mem_of_getElem? hf)
theorem place_gone {nm:ByteArray} {fs:List FileD} (h:Row fs) {f:FileD} (hf:fs[placeN nm fs]?=some f) (e:f.name≠nm):look nm fs=none:=look_no fun g hg e2=>by
 obtain ⟨t,ht,rfl⟩:=List.getElem_of_mem hg
 have ht':=List.getElem?_eq_getElem ht
 have h1:=place_spec (nm:=nm) h t _ ht'
 rcases Nat.lt_trichotomy t (placeN nm fs) with h2 | h2 | h2
 ·exact nlt_ne (h1.1 h2) e2
 ·rw [← h2,ht'] at hf;injection hf with hf;exact e (hf▸e2)
 ·exact (place_spec (nm:=nm) h _ f hf).2 (Nat.le_refl _) (e2▸row_lt h hf ht' h2)
theorem place_end {nm:ByteArray} {fs:List FileD} (h:Row fs) (hk:fs.length≤placeN nm fs):look nm fs=none:=look_no fun g hg e2=>by
 obtain ⟨t,ht,rfl⟩:=List.getElem_of_mem hg
 exact nlt_ne ((place_spec (nm:=nm) h t _ (List.getElem?_eq_getElem ht)).1 (by omega)) e2
theorem place_at {nm:ByteArray} {fs:List FileD} (h:Row fs) {f:FileD} (hf:look nm fs=some f):fs[placeN nm fs]?=some f:=by
 obtain ⟨h1,h2⟩:=look_some hf
 obtain ⟨t,ht,rfl⟩:=List.getElem_of_mem h1
 have e:placeN nm fs=t:=place_of (by omega) fun s g hg=>⟨fun h3=>h2▸row_lt h hg (List.getElem?_eq_getElem ht) h3,fun h3=>by
  rcases Nat.lt_or_ge t s with h4 | h4
  ·exact h2▸nlt_asymm (row_lt h (List.getElem?_eq_getElem ht) hg h4)
  ·obtain rfl:s=t:=by omega
   rw [List.getElem?_eq_getElem ht] at hg;injection hg with hg
   rw [← hg,h2];exact nlt_irrefl _⟩
 rw [e];exact List.getElem?_eq_getElem ht
theorem cmp_bytes:∀ x y:List UInt8,(Lib.compareBytes x y = -1∧x < y)∨(Lib.compareBytes x y=0∧x=y)∨(Lib.compareBytes x y=1∧y < x)
 | [],[]=>.inr (.inl ⟨rfl,rfl⟩)
 | [],_ :: _=>.inl ⟨rfl,by simp⟩
 | _ :: _,[]=>.inr (.inr ⟨rfl,by simp⟩)
 |a :: x,b :: y=>by
  unfold Lib.compareBytes
  by_cases h1:a < b
  ·rw [if_pos h1];exact .inl ⟨rfl,by simp [List.cons_lt_cons_iff,h1]⟩
  ·by_cases h2:b < a
   ·rw [if_neg h1,if_pos h2];exact .inr (.inr ⟨rfl,by simp [List.cons_lt_cons_iff,h2]⟩)
   ·obtain rfl:a=b:=by
     have h1' : ¬ a.toNat < b.toNat:=h1
     have h2' : ¬ b.toNat < a.toNat:=h2
     exact UInt8.toNat_inj.1 (by omega)
    rw [if_neg h1,if_neg h2]
    rcases cmp_bytes x y with ⟨e,h⟩ | ⟨e,h⟩ | ⟨e,h⟩
    ·exact .inl ⟨e,by simp [h]⟩
    ·exact .inr (.inl ⟨e,by rw [h]⟩)
    ·exact .inr (.inr ⟨e,by simp [h]⟩)
def cmpN (a b:ByteArray):Int:=Lib.compareBytes a.data.toList b.data.toList
theorem cmp_cases (a b:ByteArray):(cmpN a b = -1∧nlt a b)∨(cmpN a b=0∧a=b)∨(cmpN a b=1∧nlt b a):=by
 unfold cmpN nlt
 rw [ByteArray.toList_eq,ByteArray.toList_eq]
 rcases cmp_bytes a.data.toList b.data.toList with h | ⟨e,h⟩ | h
 ·exact .inl h
 ·exact .inr (.inl ⟨e,name_eq.1 (by rw [ByteArray.toList_eq,ByteArray.toList_eq];exact h)⟩)
 ·exact .inr (.inr h)
theorem dcmpString (a b:ByteArray) (w:World):Calls Try.prog 68 #[.string a,.string b] w fun e w'=>e = .returned (.int .i64 (cmpN a b))∧w=w':=by
 go_enter Try.func68,Try.ntmps68
 go_wp2
 rw [run_callFunc_extern Try.func70 (by kernel_rfl) (by kernel_rfl) (by kernel_rfl) (e:=Extern.BytealgCompare.compare) (by kernel_rfl),Lib.run_compareString]
 simp only [Result.andThen]
 rw [Oper.upon_value]
 go_wp2
 go_ret
 exact ⟨rfl,rfl⟩
theorem dcompare (a b:ByteArray) (w:World):Calls Try.prog 64 #[.string a,.string b] w fun e w'=>e = .returned (.int .i64 (cmpN a b))∧w=w':=by
 go_enter Try.func64,Try.ntmps64
 go_wp2_with ((with_reducible refine (dcmpString _ _ _).mono ?_);rintro e w' ⟨rfl,rfl⟩)
 go_ret
 exact ⟨rfl,rfl⟩
theorem dcmp (s nm:ByteArray) (A:Option Addr) (n c:Nat) (z:Int) (x:Int) (w:World) (hx:cmpN s nm=x):Calls Try.prog 63 #[.agg #[.string s,.slice A n c,.int .i64 z],.string nm] w fun e w'=>e = .returned (.int .i64 x)∧Below w.heap.size w w':=by
 have HX:=Lib.hid hx
 clear hx
 go_enter Try.func63,Try.ntmps63
 go_wp2_with ((with_reducible refine (dcompare _ _ _).mono ?_);rintro e w' ⟨rfl,rfl⟩)
 go_ret
 exact ⟨reti HX.out,(Below.refl _ _).alloc (Nat.le_refl _) _⟩
set_option maxHeartbeats 4000000 in
theorem dsearch (A:Option Addr) (n c:Nat) (nm:ByteArray) (fs:List FileD) (p:Nat) (b:Bool) (S:Nat→Prop) (w:World) (hS:∀ b,S b→b < w.heap.size) (hf:FilesIn w S A fs) (hn:fs.length=n) (hbig:n≤1000000) (hrow:Row fs) (hp:placeN nm fs=p) (hb:(look nm fs).isSome=b) :
  Calls Try.prog 62 #[.slice A n c,.string nm,.func (.func 63) #[] #[]] w fun e w'=>e = .returned (.tuple #[.int .i64 (p:Nat),.bool b])∧Below w.heap.size w w':=by
 have HF:Hid (∀ W,Below w.heap.size w W→Files W w.heap.size A fs):=Lib.hid (fun W h=>hf.files hS h)
 have HN:Hid (fs.length=n):=Lib.hid hn
 have HR:=Lib.hid hrow
 have HP:=Lib.hid hp
 have HB:=Lib.hid hb
 clear hf hn hrow hp hb
 go_enter Try.func62,Try.ntmps62
 go_wp2
 go_loopw [9,10] (fun s9 s10 wr => ∃ lo hi:Nat,s9 = .int .i64 lo∧s10 = .int .i64 hi∧lo≤hi∧hi≤n∧Below w.heap.size w wr∧Hid (∀ (t:Nat) f,fs[t]?=some f→(t < lo→nlt f.name nm)∧(hi≤t→¬ nlt f.name nm))) (fun s9 s10 _=>(intOf s10).toNat - (intOf s9).toNat)
 case atStart=>exact ⟨0,n,rfl,rfl,Nat.zero_le _,Nat.le_refl _,Below.refl _ _,Lib.hid (fun t f hf=>⟨fun h=>absurd h (Nat.not_lt_zero _),fun h=>by have:=(List.getElem?_eq_some_iff.1 hf).1;have:=HN.out;omega⟩)⟩
 case round =>
  obtain ⟨lo,hi,rfl,rfl,hlh,hin,hbr,I⟩:=hrel
  by_cases hlt:lo < hi
  ·obtain ⟨b',off,f,A',n',c',rfl,hb,HX,cell0,cell1,cell2,q1,q2,q3,q4,q5,q6⟩:=(HF.out _ hbr).at_ (j:=(lo+hi) / 2) (by rw [HN.out];omega)
   have hsz:=hbr.size
   rcases cmp_cases f.name nm with ⟨hx,hy⟩ | ⟨hx,hy⟩ | ⟨hx,hy⟩
   ·have HY:=Lib.hid hy
    clear hy
    go_wp2_with ((with_reducible refine (dcmp _ _ _ _ _ _ _ _ hx).mono ?_);rintro e w2 ⟨rfl,hg⟩;have hgw:=hbr.trans (hg.mono hsz))
    go_roundw
    case rel =>
     refine ⟨(lo+hi) / 2+1,hi,by rw [show ((lo:Int)+(hi:Int)) / 2+1=(((lo+hi) / 2+1:Nat):Int) by omega],rfl,by omega,hin,hgw,Lib.hid (fun t g hg=>⟨fun ht=>?_,fun ht=>(I.out t g hg).2 ht⟩)⟩
     rcases Nat.lt_or_ge t ((lo+hi) / 2) with h1 | h1
     ·exact nlt_trans (row_lt HR.out hg HX.out h1) HY.out
     ·obtain rfl:t=(lo+hi) / 2:=by omega
      have:=HX.out;rw [hg] at this;injection this with this;rw [this];exact HY.out
    case measure=>first | (simp [intOf];done) | (simp [intOf];omega)
   all_goals
    have HY:Hid (¬ nlt f.name nm):=Lib.hid (by first | (rw [hy];exact nlt_irrefl _) | exact nlt_asymm hy)
    clear hy
    go_wp2_with ((with_reducible refine (dcmp _ _ _ _ _ _ _ _ hx).mono ?_);rintro e w2 ⟨rfl,hg⟩;have hgw:=hbr.trans (hg.mono hsz))
    go_roundw
    case rel =>
     refine ⟨lo,(lo+hi) / 2,rfl,by rw [show ((lo:Int)+(hi:Int)) / 2=(((lo+hi) / 2:Nat):Int) by omega],by omega,by omega,hgw,Lib.hid (fun t g hg=>⟨fun ht=>(I.out t g hg).1 ht,fun ht=>?_⟩)⟩
     rcases Nat.lt_or_ge ((lo+hi) / 2) t with h1 | h1
     ·exact fun h2=>HY.out (nlt_trans (row_lt HR.out HX.out hg h1) h2)
     ·obtain rfl:t=(lo+hi) / 2:=by omega
      have:=HX.out;rw [hg] at this;injection this with this;rw [this];exact HY.out
    case measure=>first | (simp [intOf];done) | (simp [intOf];omega)
  ·obtain rfl:hi=lo:=by omega
   obtain rfl:p=hi:=by rw [← HP.out];exact place_of (by rw [HN.out];exact hin) I.out
   by_cases hlt2:p < n
   ·obtain ⟨b',off,f,A',n',c',rfl,hb,HX,cell0,cell1,cell2,q1,q2,q3,q4,q5,q6⟩:=(HF.out _ hbr).at_ (j:=p) (by rw [HN.out];exact hlt2)
    have hsz:=hbr.size
    rcases cmp_cases f.name nm with ⟨hx,hy⟩ | ⟨hx,hy⟩ | ⟨hx,hy⟩
    case inr.inl =>
     have HE:Hid (true=b):=Lib.hid (by rw [← HB.out,place_there HR.out HX.out hy];rfl)
     clear hy
     go_wp2_with ((with_reducible refine (dcmp _ _ _ _ _ _ _ _ hx).mono ?_);rintro e w2 ⟨rfl,hg⟩;have hgw:=hbr.trans (hg.mono hsz))
     refine bodyPost_ret (v:=.tuple #[.int .i64 (p:Nat),.bool b]) (by simp [results,Try.results62,go_sem,HE.out]) rfl ?_
     exact ⟨rfl,hgw⟩
    all_goals
     have HE:Hid (false=b):=Lib.hid (by rw [← HB.out,place_gone HR.out (by rw [HP.out];exact HX.out) (by first | exact nlt_ne hy | exact (nlt_ne hy).symm)];rfl)
     clear hy
     go_wp2_with ((with_reducible refine (dcmp _ _ _ _ _ _ _ _ hx).mono ?_);rintro e w2 ⟨rfl,hg⟩;have hgw:=hbr.trans (hg.mono hsz))
     refine bodyPost_ret (v:=.tuple #[.int .i64 (p:Nat),.bool b]) (by simp [results,Try.results62,go_sem,HE.out]) rfl ?_
     exact ⟨rfl,hgw⟩
   ·have HE:Hid (false=b):=Lib.hid (by rw [← HB.out,place_end HR.out (by rw [HN.out,HP.out];omega)];rfl)
    go_wp2
    refine bodyPost_ret (v:=.tuple #[.int .i64 (p:Nat),.bool b]) (by simp [results,Try.results62,go_sem,HE.out]) rfl ?_
    exact ⟨rfl,hbr⟩
theorem dplace (A:Option Addr) (n c:Nat) (nm:ByteArray) (fs:List FileD) (p:Nat) (b:Bool) (S:Nat→Prop) (w:World) (hS:∀ b,S b→b < w.heap.size) (hf:FilesIn w S A fs) (hn:fs.length=n) (hbig:n≤1000000) (hrow:Row fs) (hp:placeN nm fs=p) (hb:(look nm fs).isSome=b) :
  Calls Try.prog 51 #[.slice A n c,.string nm] w fun e w'=>e = .returned (.tuple #[.int .i64 (p:Nat),.bool b])∧Below w.heap.size w w':=by
 have HC:=Lib.hid (dsearch A n c nm fs p b S w hS hf hn hbig hrow hp hb)
 clear hf hn hrow hp hb
 go_enter Try.func51,Try.ntmps51
 go_wp2_with ((with_reducible refine HC.out.mono ?_);rintro e w2 ⟨rfl,hg⟩)
 refine bodyPost_ret (v:=.tuple #[.int .i64 (p:Nat),.bool b]) (by simp [results,Try.results51,go_sem]) rfl ?_
 exact ⟨rfl,hg⟩
def foundE (d:DiskD) (nm:ByteArray):Int:=if firstE d nm nm≠0 then firstE d nm nm else noE d.files nm
theorem dfound (A:Option Addr) (n c:Nat) (room fuse:Int) (down:Bool) (nm:ByteArray) (fs:List FileD) (p:Nat) (x:Int) (S:Nat→Prop) (w:World) (hS:∀ b,S b→b < w.heap.size) (hf:FilesIn w S A fs) (hn:fs.length=n) (hnc:n≤c) (hcm:c≤maxLen) (hr:inI room) (hfu:inI fuse) (hu:used fs≤9223372036854775807) (hnm:nm.size≤maxLen) (hv:foundE ⟨fs,room,fuse,down⟩ nm=x) (hp:(if x=0 then placeN nm fs else 0)=p) :
  Calls Try.prog 42 #[.agg #[.slice A n c,.int .i64 room,.int .i64 fuse,.bool down],.string nm] w fun e w'=>e = .returned (.tuple #[.int .i64 (p:Nat),.int .i64 x])∧Below w.heap.size w w':=by
 obtain ⟨y,hy⟩:∃ y,firstE ⟨fs,room,fuse,down⟩ nm nm=y:=⟨_,rfl⟩
 have hal:=dallowed A n c room fuse down nm fs y S
 have HA:Hid (∀ o,Calls Try.prog 50 #[.agg #[.slice A n c,.int .i64 room,.int .i64 fuse,.bool down],.string nm] (w.alloc o) fun e w'=>e = .returned (.int .i64 y)∧Below (w.alloc o).heap.size (w.alloc o) w') :=
  Lib.hid (fun o=>hal _ (fun b hb=>by have:=hS b hb;simp;omega) (hf.below hS ((Below.refl _ _).alloc (Nat.le_refl _) o)) hn hnc hcm hr hfu hu hnm hy)
 clear hal
 have HB:Hid (∀ o,Below w.heap.size w (w.alloc o)):=Lib.hid (fun o=>(Below.refl _ _).alloc (Nat.le_refl _) o)
 have K0:=Lib.hid (one_block w #[.slice A n c,.int .i64 room,.int .i64 fuse,.bool down] 24)
 by_cases hy0:y=0
 ·subst hy0
  obtain ⟨h1,_,_,_⟩:=first_zero.1 hy
  obtain ⟨_,_,h2,_,h3,_⟩:=(right_iff _).1 h1
  have hn64:n≤64:=by rw [← hn];exact h2
  have hx:x=noE fs nm:=by rw [← hv];unfold foundE;rw [hy,if_neg (by simp)]
  have HPL:Hid (∀ W,Below w.heap.size w W→Calls Try.prog 51 #[.slice A n c,.string nm] W fun e w'=>e = .returned (.tuple #[.int .i64 (placeN nm fs:Nat),.bool (look nm fs).isSome])∧Below W.heap.size W w') :=
   Lib.hid (fun W h=>dplace A n c nm fs _ _ S W (fun b hb=>Nat.lt_of_lt_of_le (hS b hb) h.size) (hf.below hS h) hn (by omega) h3 rfl rfl)
  have HX:=Lib.hid hx
  have HP:=Lib.hid hp
  clear hf hn hv hx hp hy hu h1 h2 h3 hS
  unfold maxLen at hcm
  generalize placeN nm fs=q at HPL HP
  cases hl:look nm fs with
  |none =>
   obtain rfl:7=x:=by rw [HX.out];unfold noE;rw [if_pos hl]
   obtain rfl:0=p:=by rw [← HP.out];simp
   rw [hl] at HPL
   simp only [Option.isSome_none] at HPL
   clear hl HX
   go_enter Try.func42,Try.ntmps42
   go_wp2_with (first
    |((with_reducible refine (HA.out _).mono ?_);rintro e w1 ⟨rfl,hg⟩;have hgw:=(HB.out _).trans (hg.mono (by simp));have E0:=Lib.hid ((hg.block w.heap.size (by simp)).trans K0.out);obtain ⟨x0,f0⟩:=block_cell E0.out 0 _ rfl)
    |((with_reducible refine (HPL.out _ hgw).mono ?_);rintro e w2 ⟨rfl,hg2⟩;have hgw2:=hgw.trans (hg2.mono hgw.size)))
   refine bodyPost_ret (v:=.tuple #[.int .i64 ((0:Nat):Int),.int .i64 7]) (by simp [results,Try.results42,go_sem]) rfl ?_
   exact ⟨rfl,hgw2⟩
  |some f =>
   obtain rfl:0=x:=by rw [HX.out];unfold noE;rw [hl];rfl
   obtain rfl:q=p:=by rw [← HP.out];simp
   rw [hl] at HPL
   simp only [Option.isSome_some] at HPL
   clear hl HX
   go_enter Try.func42,Try.ntmps42
   go_wp2_with (first
    |((with_reducible refine (HA.out _).mono ?_);rintro e w1 ⟨rfl,hg⟩;have hgw:=(HB.out _).trans (hg.mono (by simp));have E0:=Lib.hid ((hg.block w.heap.size (by simp)).trans K0.out);obtain ⟨x0,f0⟩:=block_cell E0.out 0 _ rfl)
    |((with_reducible refine (HPL.out _ hgw).mono ?_);rintro e w2 ⟨rfl,hg2⟩;have hgw2:=hgw.trans (hg2.mono hgw.size)))
   refine bodyPost_ret (v:=.tuple #[.int .i64 (q:Nat),.int .i64 0]) (by simp [results,Try.results42,go_sem]) rfl ?_
   exact ⟨rfl,hgw2⟩
 ·obtain rfl:y=x:=by rw [← hv];unfold foundE;rw [hy,if_pos hy0]
  obtain rfl:0=p:=by rw [← hp,if_neg hy0]
  have hy1:(y != 0)=true:=by simpa using hy0
  clear hf hn hv hp hy hu hy0 hS
  go_enter Try.func42,Try.ntmps42
  go_wp2_with ((with_reducible refine (HA.out _).mono ?_);rintro e w1 ⟨rfl,hg⟩;have hgw:=(HB.out _).trans (hg.mono (by simp)))
  refine bodyPost_ret (v:=.tuple #[.int .i64 ((0:Nat):Int),.int .i64 y]) (by simp [results,Try.results42,go_sem]) rfl ?_
  exact ⟨rfl,hgw⟩
end Go.Proofs.Ytlipgnenbdchmaa.disk
