/-
  SlotP
-/
import Derived.Test.YtlipgnenbdchmaaMsr49
import Derived.Test.YtlipgnenbdchmaaMsr42
set_option linter.unusedVariables false
set_option linter.unusedSimpArgs false
namespace Go.Proofs.Ytlipgnenbdchmaa.slot
set_option maxRecDepth 20000
open Go.RowKit Go.Proofs.Ytlipgnenbdchmaa Go.Proofs.Ytlipgnenbdchmaa.disk
def held (fs:List FileD) (nm:ByteArray):List Nat:=match disk.look nm fs with
 |some f=>f.data
 |none=>[]
theorem held_some {fs:List FileD} {nm:ByteArray} {f:FileD} (h:disk.look nm fs=some f):held fs nm=f.data:=by unfold held;rw [h]
theorem held_none {fs:List FileD} {nm:ByteArray} (h:disk.look nm fs=none):held fs nm=[]:=by unfold held;rw [h]
theorem read_up {d:DiskD} {nm:ByteArray} (hr:rightB d=true) (hd:d.down=false) (hn:named nm=true):(readD d nm).1=held d.files nm∧¬ ((readD d nm).2=1∨(readD d nm).2=9):=by
 unfold readD held
 rw [first_up hr hd,hn]
 simp only [Bool.and_self,if_true,ne_eq,not_true_eq_false,if_false]
 cases disk.look nm d.files<;>simp
theorem named_even:named nEven=true:=by decide +kernel
theorem named_odd:named nOdd=true:=by decide +kernel
theorem even_odd:nEven≠nOdd:=by decide
theorem named_v (g:Int):named (nameV g)=true:=by unfold nameV;split;exact named_even;exact named_odd
def valR (E O:List Nat):Sl × Int:=if (pickS O nOdd (pickS E nEven sz)).g=0 then (sz,7) else (pickS O nOdd (pickS E nEven sz),0)
def valF (fs:List FileD):Sl × Int:=valR (held fs nEven) (held fs nOdd)
theorem reads_up {d:DiskD} (hr:rightB d=true) (hd:d.down=false):readS d=valF d.files:=by
 obtain ⟨e1,e2⟩:=read_up hr hd named_even
 obtain ⟨o1,o2⟩:=read_up hr hd named_odd
 unfold readS valF valR
 rw [if_neg e2,if_neg o2,e1,o1]
section
variable {E O L:List Nat} {was s n:Sl} {f:Int} {nm:ByteArray}
theorem pick_right (h:pickS L nm n≠n):right (pickS L nm n)=true∧nameV (pickS L nm n).g=nm∧n.g < (pickS L nm n).g:=by
 unfold pickS at h ⊢
 split
 ·rename_i hc
  exact ⟨(dec_ok hc.1).1,hc.2⟩
 ·rename_i hc
  rw [if_neg hc] at h
  exact absurd rfl h
theorem pick_ne (h:pickS L nm n≠n):(dec L).2=0∧nameV (dec L).1.g=nm∧n.g < (dec L).1.g∧pickS L nm n=(dec L).1:=by
 by_cases hc:(dec L).2=0∧nameV (dec L).1.g=nm∧n.g < (dec L).1.g
 ·exact ⟨hc.1,hc.2.1,hc.2.2,if_pos hc⟩
 ·exact absurd (if_neg hc) h
theorem pick_fail (h:¬ (dec L).2=0):pickS L nm n=n:=pick_no1 h
theorem pick_enc (hr:right s=true) (hn:nameV s.g=nm) (hg:n.g < s.g):pickS (slot.enc s) nm n=s:=by
 have h:=dec_enc (right_fine hr) hr
 unfold pickS
 rw [h,if_pos ⟨rfl,hn,hg⟩]
theorem nameV_even {g:Int} (h:0≤g) (h2:g % 2=0):nameV g=nEven:=by
 unfold nameV
 rw [Int.tmod_eq_emod_of_nonneg h,if_pos h2]
theorem nameV_odd {g:Int} (h:0≤g) (h2:¬ g % 2=0):nameV g=nOdd:=by
 unfold nameV
 rw [Int.tmod_eq_emod_of_nonneg h,if_neg h2]
theorem nameV_two (g:Int):nameV g=nEven∨nameV g=nOdd:=by unfold nameV;split;exact .inl rfl;exact .inr rfl
theorem val_cases (h:valR E O=(was,f)):(was=sz∧f=7∧pickS E nEven sz=sz∧pickS O nOdd sz=sz)∨(1≤was.g∧f=0∧right was=true∧pickS O nOdd (pickS E nEven sz)=was):=by
 unfold valR at h
 have ha:pickS E nEven sz=sz∨1≤(pickS E nEven sz).g:=by
  by_cases e:pickS E nEven sz=sz
  ·exact .inl e
  ·have:=right_iff.1 (pick_right e).1;exact .inr this.1
 split at h
 ·rename_i h0
  injection h with h1 h2
  have hb:pickS O nOdd (pickS E nEven sz)=pickS E nEven sz:=by
   by_cases e:pickS O nOdd (pickS E nEven sz)=pickS E nEven sz
   ·exact e
   ·have:=right_iff.1 (pick_right e).1;omega
  rw [hb] at h0
  have hz:pickS E nEven sz=sz:=by
   rcases ha with e | e
   ·exact e
   ·omega
  rw [hz] at hb
  exact .inl ⟨h1.symm,h2.symm,hz,hb⟩
 ·rename_i h0
  injection h with h1 h2
  refine .inr ?_
  have hr:right (pickS O nOdd (pickS E nEven sz))=true:=by
   by_cases e:pickS O nOdd (pickS E nEven sz)=pickS E nEven sz
   ·rw [e] at h0 ⊢
    by_cases e2:pickS E nEven sz=sz
    ·rw [e2] at h0;exact absurd rfl h0
    ·exact (pick_right e2).1
   ·exact (pick_right e).1
  rw [h1] at hr
  exact ⟨(right_iff.1 hr).1,h2.symm,hr,h1⟩
theorem val_even (h:valR E O=(was,f)) (h2:was.g % 2=0):pickS E nEven sz=was∧pickS O nOdd was=was:=by
 rcases val_cases h with ⟨rfl,_,h3,h4⟩ | ⟨h1,_,_,h4⟩
 ·exact ⟨h3,h4⟩
 ·have e:pickS O nOdd (pickS E nEven sz)=pickS E nEven sz:=by
   by_cases e:pickS O nOdd (pickS E nEven sz)=pickS E nEven sz
   ·exact e
   ·have h5:=(pick_right e).2.1
    rw [h4,nameV_even (by omega) h2] at h5
    exact absurd h5 even_odd
  rw [e] at h4
  rw [h4] at e
  exact ⟨h4,e⟩
theorem val_odd (h:valR E O=(was,f)) (h2:¬ was.g % 2=0):pickS O nOdd sz=was∧1≤was.g∧f=0:=by
 rcases val_cases h with ⟨rfl,_,_,_⟩ | ⟨h1,h3,_,h4⟩
 ·exact absurd rfl h2
 ·refine ⟨?_,h1,h3⟩
  have e:pickS O nOdd (pickS E nEven sz)≠pickS E nEven sz:=fun e=>by
   rw [e] at h4
   have e2:pickS E nEven sz≠sz:=fun e2=>by rw [e2] at h4;rw [← h4] at h1;exact absurd h1 (by decide)
   have h5:=(pick_right e2).2.1
   rw [h4,nameV_odd (by omega) h2] at h5
   exact even_odd h5.symm
  obtain ⟨c1,c2,c3,c4⟩:=pick_ne e
  rw [h4] at c4
  rw [pick_yes c1 c2 (by rw [← c4];exact h1)]
  exact c4.symm
theorem of_val {a:Sl} (h1:pickS E nEven sz=n) (h2:pickS O nOdd n=a) (h3:1≤a.g):valR E O=(a,0):=by
 unfold valR;rw [h1,h2,if_neg (by omega)]
theorem of_val0 (h1:pickS E nEven sz=sz) (h2:pickS O nOdd sz=sz):valR E O=(sz,7):=by
 unfold valR;rw [h1,h2];rfl
theorem val_rng (h:valR E O=(was,f)):0≤was.g∧was.g≤1000000000:=by
 rcases val_cases h with ⟨rfl,_⟩ | ⟨_,_,hr,_⟩
 ·decide
 ·have:=right_iff.1 hr;omega
end
section
variable {fs gs:List FileD} {was s:Sl} {f:Int}
theorem val_new (hv:valF fs=(was,f)) (hs:s.g=was.g+1) (hr:right s=true) (hn:held gs (nameV s.g)=slot.enc s) (ho:∀ nm,nm≠nameV s.g→held gs nm=held fs nm):valF gs=(s,0):=by
 have hg:=(right_iff.1 hr).1
 have hw:=val_rng hv
 unfold valF at hv ⊢
 by_cases h2:was.g % 2=0
 ·have e:nameV s.g=nOdd:=nameV_odd (by omega) (by omega)
  rw [e] at hn ho
  rw [hn,ho nEven even_odd]
  obtain ⟨v1,v2⟩:=val_even hv h2
  exact of_val v1 (pick_enc hr e (by omega)) hg
 ·have e:nameV s.g=nEven:=nameV_even (by omega) (by omega)
  rw [e] at hn ho
  rw [hn,ho nOdd (fun h=>even_odd h.symm)]
  obtain ⟨v1,v2,_⟩:=val_odd hv h2
  refine of_val (pick_enc hr e (show (0:Int) < s.g by omega)) (a:=s) ?_ hg
  unfold pickS at v1 ⊢
  split at v1
  ·rename_i hc
   rw [if_neg]
   intro hc2
   rw [v1] at hc2
   omega
  ·rename_i hc
   rw [← v1] at v2;exact absurd v2 (by decide)
theorem val_old (hv:valF fs=(was,f)) (hs:s.g=was.g+1) (hn:¬ (dec (held gs (nameV s.g))).2=0) (ho:∀ nm,nm≠nameV s.g→held gs nm=held fs nm):valF gs=(was,f):=by
 have hw:=val_rng hv
 unfold valF at hv ⊢
 by_cases h2:was.g % 2=0
 ·have e:nameV s.g=nOdd:=nameV_odd (by omega) (by omega)
  rw [e] at hn ho
  rw [ho nEven even_odd]
  obtain ⟨v1,v2⟩:=val_even hv h2
  rcases val_cases hv with ⟨rfl,rfl,_⟩ | ⟨h1,rfl,_⟩
  ·exact of_val0 v1 (pick_fail hn)
  ·exact of_val v1 (pick_fail hn) h1
 ·have e:nameV s.g=nEven:=nameV_even (by omega) (by omega)
  rw [e] at hn ho
  rw [ho nOdd (fun h=>even_odd h.symm)]
  obtain ⟨v1,v2,rfl⟩:=val_odd hv h2
  exact of_val (pick_fail hn) v1 v2
end
def Sures (fs:List FileD):Prop := ∀ f ∈ fs,(f.data.length:Int)=f.sure
section
variable {fs:List FileD} {nm:ByteArray} {b:List Nat} {keep:List Int}
theorem look_other {f:FileD} {x:ByteArray} (h:Row fs) (hx:x≠f.name):disk.look x (withF f fs)=disk.look x fs:=by
 cases e:disk.look x fs with
 |none =>
  refine look_no fun g hg hq=>?_
  rcases (mem_with h).1 hg with rfl | ⟨hg,_⟩
  ·exact hx hq.symm
  ·exact look_none e g hg hq
 |some g =>
  obtain ⟨h1,h2⟩:=look_some e
  rw [← h2]
  exact look_of (row_with f h) ((mem_with h).2 (.inr ⟨h1,by rw [h2];exact hx⟩))
theorem held_with {f:FileD} (h:Row fs):held (withF f fs) f.name=f.data∧∀ x,x≠f.name→held (withF f fs) x=held fs x :=
 ⟨held_some (look_with f h),fun x hx=>by unfold held;rw [look_other h hx]⟩
def emptyF (fs:List FileD) (nm:ByteArray):List FileD:=if disk.look nm fs=none then fs else cutF fs nm 0
theorem cut_name (fs:List FileD) (nm:ByteArray):({ oldOf nm fs with data:=(oldOf nm fs).data.take (0:Int).toNat,sure:=if 0 < (oldOf nm fs).sure then 0 else (oldOf nm fs).sure } : FileD).name=nm:=old_name nm fs
theorem empty_held (h:Row fs):held (emptyF fs nm) nm=[]∧∀ x,x≠nm→held (emptyF fs nm) x=held fs x:=by
 unfold emptyF
 split
 ·rename_i e;exact ⟨held_none e,fun _ _=>rfl⟩
 ·have h2:=held_with (f:={ oldOf nm fs with data:=(oldOf nm fs).data.take (0:Int).toNat,sure:=if 0 < (oldOf nm fs).sure then 0 else (oldOf nm fs).sure }) h
  rw [cut_name] at h2
  exact ⟨h2.1.trans (by simp),h2.2⟩
theorem empty_row (h:Row fs):Row (emptyF fs nm):=by
 unfold emptyF
 split
 ·exact h
 ·exact row_with _ h
theorem empty_old (h:Row fs) (hs:∀ f ∈ fs,fileOk f=true):oldOf nm (emptyF fs nm)=⟨nm,[],0⟩:=by
 unfold emptyF
 split
 ·rename_i e
  rcases old_cases nm fs with ⟨_,e2⟩ | ⟨f,e1,_⟩
  ·exact e2
  ·rw [e] at e1;cases e1
 ·have h2:=look_with ({ oldOf nm fs with data:=(oldOf nm fs).data.take (0:Int).toNat,sure:=if 0 < (oldOf nm fs).sure then 0 else (oldOf nm fs).sure } : FileD) h
  rw [cut_name] at h2
  unfold oldOf cutF
  rw [h2]
  have hn:=old_name nm fs
  have hz:¬ (oldOf nm fs).sure < 0:=by
   rcases old_cases nm fs with ⟨_,e2⟩ | ⟨f,_,e2,e3,_⟩
   ·rw [e2];exact Int.lt_irrefl 0
   ·rw [e2];have:=(file_iff f).1 (hs f e3);omega
  show (⟨(oldOf nm fs).name,(oldOf nm fs).data.take 0,if 0 < (oldOf nm fs).sure then 0 else (oldOf nm fs).sure⟩:FileD)=_
  rw [hn]
  congr 1
  split<;>omega
theorem empty_sures (h:Row fs) (hf:∀ f ∈ fs,fileOk f=true) (hs:Sures fs):Sures (emptyF fs nm):=by
 unfold emptyF
 split
 ·exact hs
 ·intro x hx
  unfold cutF at hx
  rcases (mem_with h).1 hx with rfl | ⟨hx,_⟩
  ·rcases old_cases nm fs with ⟨_,e2⟩ | ⟨f,_,e2,e3,_⟩
   ·rw [e2];rfl
   ·rw [e2]
    have:=(file_iff f).1 (hf f e3)
    show ((f.data.take 0).length:Int)=if 0 < f.sure then 0 else f.sure
    rw [List.take_zero,List.length_nil]
    split<;>omega
  ·exact hs x hx
theorem app_held (h:Row fs) (ho:oldOf nm fs=⟨nm,[],0⟩):held (appF fs nm b) nm=b∧∀ x,x≠nm→held (appF fs nm b) x=held fs x:=by
 have h2:=held_with (f:={ oldOf nm fs with data:=(oldOf nm fs).data++b }) h
 rw [appF_name] at h2
 refine ⟨h2.1.trans (by rw [ho];rfl),h2.2⟩
theorem back_row (h:Row fs):Row (backF keep fs):=by rw [row_names,back_names,← row_names];exact h
theorem back_look (h:Row fs):(disk.look nm fs=none∧disk.look nm (backF keep fs)=none)∨∃ f i,disk.look nm fs=some f∧disk.look nm (backF keep fs)=some (keptOf keep i f):=by
 cases e:disk.look nm fs with
 |none =>
  refine .inl ⟨rfl,look_no fun g hg hq=>?_⟩
  obtain ⟨i,f,_,hf,rfl⟩:=mem_back hg
  exact look_none e f hf hq
 |some f =>
  obtain ⟨h1,h2⟩:=look_some e
  obtain ⟨i,hi⟩:=back_mem (keep:=keep) h1
  have h3:=look_of (back_row (keep:=keep) h) hi
  have h4:(keptOf keep i f).name=nm:=h2
  rw [h4] at h3
  exact .inr ⟨f,i,rfl,h3⟩
theorem back_same (h:Sures fs):backF keep fs=fs:=back_again keep h
theorem back_held (h:Row fs) (ho:oldOf nm fs=⟨nm,[],0⟩) (hs:Sures fs):(∃ j,held (backF keep (appF fs nm b)) nm=b.take j)∧∀ x,x≠nm→held (backF keep (appF fs nm b)) x=held fs x:=by
 have hrow:Row (appF fs nm b):=row_with _ h
 have hl:=look_appF (b:=b) (nm:=nm) h
 rw [ho] at hl
 refine ⟨?_,fun x hx=>?_⟩
 ·rcases back_look (keep:=keep) (nm:=nm) hrow with ⟨e,_⟩ | ⟨f,i,e1,e2⟩
  ·rw [hl] at e;cases e
  ·rw [hl] at e1
   injection e1 with e1
   subst e1
   rw [held_some e2]
   exact ⟨_,rfl⟩
 ·have hap:disk.look x (appF fs nm b)=disk.look x fs:=look_other h (by rw [appF_name];exact hx)
  rcases back_look (keep:=keep) (nm:=x) hrow with ⟨e1,e2⟩ | ⟨f,i,e1,e2⟩
  ·rw [held_none e2,held_none (by rw [← hap];exact e1)]
  ·rw [hap] at e1
   rw [held_some e2,held_some e1,kept_again (hs f (look_some e1).1)]
theorem sync_held (h:Row fs):(∀ x,held (syncF fs nm) x=held fs x∨x=nm)∧held (syncF fs nm) nm=(oldOf nm fs).data:=by
 have h2:=held_with (f:={ oldOf nm fs with sure:=((oldOf nm fs).data.length:Nat) }) h
 have hn:({ oldOf nm fs with sure:=((oldOf nm fs).data.length:Nat) } : FileD).name=nm:=old_name nm fs
 rw [hn] at h2
 refine ⟨fun x=>?_,h2.1⟩
 by_cases e:x=nm
 ·exact .inr e
 ·exact .inl (h2.2 x e)
theorem sync_sures (h:Row fs) (ho:oldOf nm fs=⟨nm,[],0⟩) (hs:Sures fs):Sures (syncF (appF fs nm b) nm):=fun x hx=>by
 have hrow:Row (appF fs nm b):=row_with _ h
 rcases (mem_with hrow).1 hx with rfl | ⟨hx,hn⟩
 ·rfl
 ·have hn2:x.name≠nm:=fun e=>hn (e.trans (old_name nm _).symm)
  rcases (mem_with h).1 hx with rfl | ⟨hx,_⟩
  ·exact absurd (appF_name fs nm b) hn2
  ·exact hs x hx
theorem old_app (h:Row fs) (ho:oldOf nm fs=⟨nm,[],0⟩):oldOf nm (appF fs nm b)=⟨nm,b,0⟩:=by
 unfold oldOf
 rw [look_appF h,ho];rfl
end
structure Wrote (d:DiskD) (nm:ByteArray) (b:List Nat) (r:DiskD × Int):Prop where
 right:rightB r.1=true
 room:r.1.room=d.room
 c:(r.2=0∧r.1.files=syncF (appF (emptyF d.files nm) nm b) nm)∨(r.2=6∧r.1.files=emptyF d.files nm)∨(r.2=9∧d.fuse ≠ -1∧(r.1.files=d.files∨r.1.files=emptyF d.files nm∨r.1.files=appF (emptyF d.files nm) nm b))
 six:r.2=6→¬ ((used (emptyF d.files nm)+b.length:Nat):Int)≤d.room∨64≤(emptyF d.files nm).length
theorem n97:¬ (9:Int)=7:=by decide
theorem n07:¬ (0:Int)=7:=by decide
theorem n90:¬ (9:Int)=0:=by decide
theorem n96:¬ (9:Int)=6:=by decide
theorem n60:¬ (6:Int)=0:=by decide
theorem n06:¬ (0:Int)=6:=by decide
theorem empty_up {d:DiskD} {nm:ByteArray} (hr:rightB d=true) (hd:d.down=false) (hn:named nm=true) :
  (d.fuse=0∧emptyD d nm=(⟨d.files,d.room,0,true⟩,9))∨(∃ f:Int,emptyD d nm=(⟨emptyF d.files nm,d.room,f,false⟩,0)∧(d.fuse = -1→f = -1)):=by
 have e0:firstE d nm nm=0:=by rw [first_up hr hd,hn];rfl
 by_cases hl:disk.look nm d.files=none
 ·have e1:cutE d.files nm 0=7:=by unfold cutE;rw [if_pos hl]
  have e2:cutD d nm 0=(d,7):=by
   unfold cutD opD
   rw [e0,e1,if_neg (by decide),if_pos (by decide)]
  refine .inr ⟨d.fuse,?_,id⟩
  rw [em_none (by rw [e2]),e2]
  unfold emptyF
  rw [if_pos hl]
  obtain ⟨a1,a2,a3,a4⟩:=d
  simp only at hd
  subst hd
  rfl
 ·have e1:cutE d.files nm 0=0:=by unfold cutE;rw [if_neg hl,if_neg (by omega)]
  by_cases hf:d.fuse=0
  ·have e2:cutD d nm 0=(⟨d.files,d.room,0,true⟩,9):=by
    unfold cutD opD
    rw [e0,e1,if_neg (by decide),if_neg (by decide),if_pos hf,hf];rfl
   exact .inl ⟨hf,by rw [em_else (by rw [e2];exact n97),e2]⟩
  ·have e2:cutD d nm 0=(⟨emptyF d.files nm,d.room,if 0 < d.fuse then d.fuse - 1 else d.fuse,false⟩,0):=by
    unfold cutD opD emptyF
    rw [e0,e1,if_neg (by decide),if_neg (by decide),if_neg hf,hd,if_neg hl]
   exact .inr ⟨_,by rw [em_else (by rw [e2];exact n07),e2],fun h=>by rw [h];rfl⟩
theorem steps_wrote {d:DiskD} {nm:ByteArray} {b:List Nat} (hr:rightB d=true) (hd:d.down=false) (hn:named nm=true):Wrote d nm b (stepsD d nm b):=by
 have hrow:Row d.files:=(right_files hr).2.2.1
 have her:=empty_right (nm:=nm) hr
 rcases empty_up hr hd hn with ⟨hf,e⟩ | ⟨f,e,hfu⟩
 ·rw [st_1 (by rw [e];exact n90)]
  rw [e] at her ⊢
  exact ⟨her,rfl,.inr (.inr ⟨rfl,by omega,.inl rfl⟩),fun h=>absurd h n96⟩
 ·have h0:(emptyD d nm).2=0:=by rw [e]
  obtain ⟨x,hx⟩:∃ x,(emptyD d nm).1=x:=⟨_,rfl⟩
  have hxx:x=⟨emptyF d.files nm,d.room,f,false⟩:=by rw [← hx,e]
  have ha:=right_append (nm:=nm) (b:=b) her
  have h1:stepsD d nm b=(if (appendD x nm b).2=0 then syncD (appendD x nm b).1 nm else appendD x nm b):=by unfold stepsD;rw [if_pos h0,hx]
  rw [hx] at her ha
  rw [h1]
  clear h1
  have e0:firstE x nm nm=0:=by rw [first_up her (by rw [hxx]),hn];rfl
  have hfs:x.files=emptyF d.files nm:=by rw [hxx]
  have hrm:x.room=d.room:=by rw [hxx]
  have hxf:x.fuse=f:=by rw [hxx]
  have hxd:x.down=false:=by rw [hxx]
  clear hxx
  unfold appendD at ha ⊢
  rcases op_cases x nm nm (appE x nm b) (appF x.files nm b) true with ⟨q,_⟩ | ⟨_,q,e2⟩ | ⟨_,q,q2,e2⟩ | ⟨_,q,q2,e2⟩
  ·exact absurd e0 q
  ·have h6:appE x nm b=6:=by
    unfold appE at q ⊢
    split
    ·rfl
    ·rename_i hc;rw [if_neg hc] at q;exact absurd rfl q
   have h7:¬ ((used (emptyF d.files nm)+b.length:Nat):Int)≤d.room∨64≤(emptyF d.files nm).length:=by
    unfold appE at q
    split at q
    ·rename_i hc
     rw [hfs,hrm] at hc
     rcases hc with hc | ⟨_,hc⟩
     ·exact .inl (by omega)
     ·exact .inr hc
    ·exact absurd rfl q
   rw [e2,h6,if_neg n60]
   exact ⟨her,hrm,.inr (.inl ⟨rfl,hfs⟩),fun _=>h7⟩
  ·rw [e2] at ha ⊢
   rw [if_neg (show ¬ (9:Int)=0 by decide)]
   exact ⟨ha,hrm,.inr (.inr ⟨rfl,fun h=>by have:=hfu h;omega,.inr (.inr (by rw [← hfs];rfl))⟩),fun h=>absurd h n96⟩
  ·rw [e2] at ha ⊢
   rw [if_pos rfl]
   obtain ⟨y,hy⟩:∃ y:DiskD,(⟨appF x.files nm b,x.room,if 0 < x.fuse then x.fuse - 1 else x.fuse,x.down⟩:DiskD)=y:=⟨_,rfl⟩
   have y1:y.files=appF (emptyF d.files nm) nm b:=by rw [← hy,← hfs]
   have y2:y.room=d.room:=by rw [← hy,← hrm]
   have y3:y.down=false:=by rw [← hy];exact hxd
   have y4:d.fuse = -1→y.fuse = -1:=fun h=>by
    have:=hfu h
    rw [← hy]
    show (if 0 < x.fuse then x.fuse - 1 else x.fuse) = -1
    rw [hxf,this];rfl
   simp only at ha ⊢
   rw [hy] at ha ⊢
   have hs:=right_sync (nm:=nm) ha
   have e3:firstE y nm nm=0:=by rw [first_up ha y3,hn];rfl
   have e4:noE y.files nm=0:=by
    unfold noE
    rw [y1,look_appF (empty_row hrow),if_neg (by simp)]
   unfold syncD at hs ⊢
   rcases op_cases y nm nm (noE y.files nm) (syncF y.files nm) false with ⟨q,_⟩ | ⟨_,q,_⟩ | ⟨_,_,q2,e5⟩ | ⟨_,_,_,e5⟩
   ·exact absurd e3 q
   ·exact absurd e4 q
   ·rw [e5] at hs ⊢
    exact ⟨hs,y2,.inr (.inr ⟨rfl,fun h=>by have:=y4 h;omega,.inr (.inr y1)⟩),fun h=>absurd h n96⟩
   ·rw [e5] at hs ⊢
    exact ⟨hs,y2,.inl ⟨rfl,by show syncF y.files nm=_;rw [y1]⟩,fun h=>absurd h n06⟩
section
variable {d:DiskD} {s was:Sl} {f:Int} {keep:List Int} {r:DiskD × Int}
theorem back_of {x:DiskD} (h:rightB x=true) (keep:List Int) {k:Int} (hk : -1≤k):backD x keep k=(⟨backF keep x.files,x.room,k,false⟩,0):=by
 unfold backD;rw [if_pos ⟨h,hk⟩]
theorem wrote_back (hr:rightB d=true) (hs:Sures d.files) (hv:valF d.files=(was,f)) (hg:s.g=was.g+1) (hrs:slot.right s=true) (h:Wrote d (nameV s.g) (slot.enc s) r) :
  (r.2=0→valF (backF keep r.1.files)=(s,0))∧(valF (backF keep r.1.files)=(s,0)∨valF (backF keep r.1.files)=(was,f))∧(∀ x,x≠nameV s.g→held (backF keep r.1.files) x=held d.files x):=by
 obtain ⟨_,hok,hrow,_⟩:=right_files hr
 have e1:=empty_row (nm:=nameV s.g) hrow
 have e2:=empty_held (nm:=nameV s.g) hrow
 have e3:=empty_old (nm:=nameV s.g) hrow hok
 have e4:=empty_sures (nm:=nameV s.g) hrow hok hs
 have hnil:¬ (dec []).2=0:=by rw [dec_short (by decide)];decide
 rcases h.c with ⟨h0,hf⟩ | ⟨h0,hf⟩ | ⟨h0,_,hf | hf | hf⟩
 ·have hsy:=back_same (keep:=keep) (sync_sures (b:=slot.enc s) e1 e3 e4)
  rw [hf,hsy]
  have hra:Row (appF (emptyF d.files (nameV s.g)) (nameV s.g) (slot.enc s)):=row_with _ e1
  have a1:=sync_held (nm:=nameV s.g) hra
  rw [old_app e1 e3] at a1
  have a2:=app_held (b:=slot.enc s) e1 e3
  have ho:∀ x,x≠nameV s.g→held (syncF (appF (emptyF d.files (nameV s.g)) (nameV s.g) (slot.enc s)) (nameV s.g)) x=held d.files x:=fun x hx=>((a1.1 x).resolve_right hx).trans ((a2.2 x hx).trans (e2.2 x hx))
  have:=val_new hv hg hrs a1.2 ho
  exact ⟨fun _=>this,.inl this,ho⟩
 ·rw [hf,back_same e4]
  exact ⟨fun h=>absurd (h0.symm.trans h) (by decide),.inr (val_old hv hg (by rw [e2.1];exact hnil) e2.2),e2.2⟩
 ·rw [hf,back_same hs]
  exact ⟨fun h=>absurd (h0.symm.trans h) (by decide),.inr hv,fun _ _=>rfl⟩
 ·rw [hf,back_same e4]
  exact ⟨fun h=>absurd (h0.symm.trans h) (by decide),.inr (val_old hv hg (by rw [e2.1];exact hnil) e2.2),e2.2⟩
 ·rw [hf]
  obtain ⟨⟨j,hj⟩,h2⟩:=back_held (keep:=keep) (b:=slot.enc s) e1 e3 e4
  have ho:∀ x,x≠nameV s.g→held (backF keep (appF (emptyF d.files (nameV s.g)) (nameV s.g) (slot.enc s))) x=held d.files x:=fun x hx=>(h2 x hx).trans (e2.2 x hx)
  refine ⟨fun h=>absurd (h0.symm.trans h) (by decide),?_,ho⟩
  by_cases hl:20≤j
  ·rw [List.take_of_length_le (by rw [enc_len];exact hl)] at hj
   exact .inl (val_new hv hg hrs hj ho)
  ·refine .inr (val_old hv hg ?_ ho)
   rw [hj,dec_short (by rw [List.length_take,enc_len];omega)]
   decide
end
end Go.Proofs.Ytlipgnenbdchmaa.slot
