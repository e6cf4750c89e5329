/-
  SlotQ
-/
import Derived.Test.YtlipgnenbdchmaaMsr50
set_option linter.unusedVariables false
set_option linter.unusedSimpArgs false
namespace Go.Proofs.Ytlipgnenbdchmaa.slot
set_option maxRecDepth 20000
open Go.RowKit Go.Proofs.Ytlipgnenbdchmaa Go.Proofs.Ytlipgnenbdchmaa.disk
section
variable {fs:List FileD} {nm x:ByteArray} {b:List Nat} {keep:List Int}
end
section
variable {d:DiskD} {s was:Sl} {f:Int} {keep:List Int} {r:DiskD × Int} {nm:ByteArray} {b:List Nat}
theorem val_err (h:valF d.files=(was,f)):f=0∨f=7:=by
 rcases val_cases h with ⟨_,e,_⟩ | ⟨_,e,_⟩
 ·exact .inr e
 ·exact .inl e
theorem back_sures (hr:rightB d=true):Sures (backF keep d.files):=fun g hg=>by
 obtain ⟨i,f,_,hf,rfl⟩:=mem_back hg
 exact (kept_ok (keep:=keep) (i:=i) ((right_files hr).2.1 f hf)).2.2.1
theorem steps_of (hr:rightB d=true) (hd:d.down=false) (hv:valF d.files=(was,f)) (hg:s.g=was.g+1) (hrs:slot.right s=true):Wrote d (nameV s.g) (slot.enc s) (writeS d s):=by
 have h9:¬ (readS d).2=9:=by
  rw [reads_up hr hd,hv]
  rcases val_err hv with rfl | rfl
  ·exact fun h=>absurd h (show ¬ (0:Int)=9 by decide)
  ·exact fun h=>absurd h (show ¬ (7:Int)=9 by decide)
 have ha:againstS d s=0:=ag_0 hr hrs h9 (by rw [reads_up hr hd,hv];exact hg)
 rw [wr_yes ha]
 exact steps_wrote hr hd (named_v _)
end
def Small (fs:List FileD):Prop := ∀ f ∈ fs,(f.name=nEven∨f.name=nOdd)∧f.data.length≤20
theorem small_two {fs:List FileD} (h:Row fs) (hs:Small fs):fs.length≤2∧used fs≤40:=by
 match fs,h,hs with
 | [],_,_=>exact ⟨by simp,by simp [used]⟩
 | [a],_,hs=>have:=(hs a (by simp)).2;exact ⟨by simp,by simp [used];omega⟩
 | [a,b],_,hs=>have:=(hs a (by simp)).2;have:=(hs b (by simp)).2;exact ⟨by simp,by simp [used];omega⟩
 |a :: b :: c :: l,h,hs =>
  exfalso
  have h1:=List.pairwise_cons.1 h
  have h2:=List.pairwise_cons.1 h1.2
  have n1:=nlt_ne (h1.1 b (by simp))
  have n2:=nlt_ne (h1.1 c (by simp))
  have n3:=nlt_ne (h2.1 c (by simp))
  rcases (hs a (by simp)).1 with ea | ea<;>rcases (hs b (by simp)).1 with eb | eb<;>rcases (hs c (by simp)).1 with ec | ec<;>rw [ea,eb] at n1<;>rw [ea,ec] at n2<;>rw [eb,ec] at n3<;>first | exact n1 rfl | exact n2 rfl | exact n3 rfl
section
variable {fs:List FileD} {nm:ByteArray} {b:List Nat} {keep:List Int}
theorem small_with {f:FileD} (h:Row fs) (hs:Small fs) (hn:f.name=nEven∨f.name=nOdd) (hd:f.data.length≤20):Small (withF f fs):=fun x hx=>by
 rcases (mem_with h).1 hx with rfl | ⟨hx,_⟩
 ·exact ⟨hn,hd⟩
 ·exact hs x hx
theorem small_empty (h:Row fs) (hs:Small fs) (hn:nm=nEven∨nm=nOdd):Small (emptyF fs nm):=by
 unfold emptyF
 split
 ·exact hs
 ·exact small_with h hs (by rw [cut_name];exact hn) (by simp)
theorem small_app (h:Row fs) (hs:Small fs) (hn:nm=nEven∨nm=nOdd) (ho:oldOf nm fs=⟨nm,[],0⟩) (hb:b.length≤20):Small (appF fs nm b) :=
 small_with h hs (by rw [appF_name];exact hn) (by rw [ho];exact hb)
theorem small_sync (h:Row fs) (hs:Small fs) (hn:nm=nEven∨nm=nOdd) (ho:(oldOf nm fs).data.length≤20):Small (syncF fs nm) :=
 small_with h hs (by rw [show ({ oldOf nm fs with sure:=((oldOf nm fs).data.length:Nat) } : FileD).name=nm from old_name nm fs];exact hn) ho
theorem small_back (hs:Small fs):Small (backF keep fs):=fun g hg=>by
 obtain ⟨i,f,_,hf,rfl⟩:=mem_back hg
 exact ⟨(hs f hf).1,by
  have:=(hs f hf).2
  show (f.data.take _).length≤20
  rw [List.length_take];omega⟩
end
structure At (d:DiskD) (was:Sl) (i:Nat):Prop where
 r:rightB d=true
 w:d.down=false
 m:d.room=60
 s:Sures d.files
 k:Small d.files
 v:∃ f,valF d.files=(was,f)
 g:0≤was.g∧was.g≤(i:Int)
theorem at_zero:At ⟨[],60, -1,false⟩ sz 0 :=
 ⟨by decide +kernel,rfl,rfl,(fun f hf=>absurd hf (by simp)),(fun f hf=>absurd hf (by simp)),⟨7,rfl⟩,by decide⟩
theorem at_right {d:DiskD} {was:Sl} {i:Nat} (h:At d was i):slot.right was=true∨was=sz:=by
 obtain ⟨f,hv⟩:=h.v
 rcases val_cases hv with ⟨e,_⟩ | ⟨_,_,e,_⟩
 ·exact .inr e
 ·exact .inl e
theorem at_fuse {d:DiskD} {was:Sl} {i:Nat} (h:At d was i) {k:Int} (hk : -1≤k):At ⟨d.files,d.room,k,d.down⟩ was i:=by
 obtain ⟨r1,_,r3⟩:=(disk.right_iff d).1 h.r
 exact ⟨(disk.right_iff _).2 ⟨r1,hk,r3⟩,h.w,h.m,h.s,h.k,h.v,h.g⟩
theorem at_next {d X B:DiskD} {was now:Sl} {i:Nat} {keep:List Int} {e f g:Int} (h:At d was i) (hi:i < 30) (hW:writeS d ⟨was.g+1,(i:Int)⟩=(X,e)) (hB:backD X keep (-1)=(B,f)) (hN:readS B=(now,g)) :
  (e=0∨e=9)∧f=0∧(g=0∨g=7)∧(now=⟨was.g+1,(i:Int)⟩∨(¬ e=0∧now=was))∧At B now (i+1):=by
 obtain ⟨f0,hv⟩:=h.v
 obtain ⟨g0,g1⟩:=h.g
 obtain ⟨_,hok,hrow,_⟩:=right_files h.r
 have hrs:slot.right ⟨was.g+1,(i:Int)⟩=true:=right_iff.2 ⟨by show 1≤was.g+1;omega,by show was.g+1≤1000000000;omega,by show (0:Int)≤i;omega,by show (i:Int)≤1000000000;omega⟩
 have hwr:=steps_of (s:=⟨was.g+1,(i:Int)⟩) h.r h.w hv rfl hrs
 rw [hW] at hwr
 have hX:=hwr.right
 have hb:=back_of hX keep (k := -1) (by omega)
 simp only at hX hb
 rw [hb] at hB
 injection hB with hB hf
 subst hB
 have hBr:rightB (⟨backF keep X.files,X.room, -1,false⟩:DiskD)=true:=by have:=right_back (keep:=keep) (fuse := -1) hX;rw [hb] at this;exact this
 have hBv:valF (backF keep X.files)=(now,g):=by have:=reads_up hBr rfl;rw [hN] at this;exact this.symm
 obtain ⟨k1,k2,_⟩:=wrote_back (keep:=keep) h.r h.s hv rfl hrs hwr
 simp only at k1 k2
 rw [hBv] at k1 k2
 have hnm:=nameV_two (was.g+1)
 have s1:=small_empty hrow h.k hnm
 have e1:=empty_row (nm:=nameV (was.g+1)) hrow
 have e3:=empty_old (nm:=nameV (was.g+1)) hrow hok
 have hel:(slot.enc (⟨was.g+1,(i:Int)⟩:Sl)).length≤20:=by rw [enc_len];omega
 have s2:=small_app e1 s1 hnm e3 hel
 have hsm:Small X.files:=by
  rcases hwr.c with ⟨_,e⟩ | ⟨_,e⟩ | ⟨_,_,e | e | e⟩
  ·rw [show X.files=_ from e]
   exact small_sync (row_with _ e1) s2 hnm (by rw [old_app e1 e3];exact hel)
  ·rw [show X.files=_ from e];exact s1
  ·rw [show X.files=_ from e];exact h.k
  ·rw [show X.files=_ from e];exact s1
  ·rw [show X.files=_ from e];exact s2
 have hnow:now=⟨was.g+1,(i:Int)⟩∨(¬ e=0∧now=was):=by
  by_cases he:e=0
  ·exact .inl (Prod.mk.inj (k1 he)).1
  ·rcases k2 with q | q
   ·exact .inl (Prod.mk.inj q).1
   ·exact .inr ⟨he,(Prod.mk.inj q).1⟩
 refine ⟨?_,hf.symm,val_err (d:=⟨backF keep X.files,X.room, -1,false⟩) hBv,hnow,⟨hBr,rfl,(hwr.room).trans h.m,back_sures hX,small_back hsm,⟨g,hBv⟩,?_⟩⟩
 ·rcases hwr.c with ⟨q,_⟩ | ⟨q,_⟩ | ⟨q,_⟩
  ·exact .inl q
  ·exfalso
   have h2:=small_two e1 s1
   have h3:¬ ((used (emptyF d.files (nameV (was.g+1)))+(slot.enc (⟨was.g+1,(i:Int)⟩:Sl)).length:Nat):Int)≤d.room∨64≤(emptyF d.files (nameV (was.g+1))).length:=hwr.six q
   have hm:=h.m
   have hel2:(slot.enc (⟨was.g+1,(i:Int)⟩:Sl)).length=20:=enc_len _
   rw [hel2,hm] at h3
   rcases h3 with h3 | h3<;>omega
  ·exact .inr q
 ·rcases hnow with q | ⟨_,q⟩<;>rw [q]
  ·exact ⟨by show 0≤was.g+1;omega,by show was.g+1≤((i+1:Nat):Int);omega⟩
  ·exact ⟨g0,by omega⟩
end Go.Proofs.Ytlipgnenbdchmaa.slot
