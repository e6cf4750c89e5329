/-
  SlotQ, SlotG
-/
import Derived.Test.YtlipgnenbdchmaaMsk50
import Derived.Test.YtlipgnenbdchmaaMsk49
import Derived.Test.YtlipgnenbdchmaaMsk43
import Derived.Test.YtlipgnenbdchmaaMsk11
import Derived.Test.YtlipgnenbdchmaaMsk47
set_option linter.unusedVariables false
set_option linter.unusedSimpArgs false
section
namespace Go.Proofs.Ytlipgnenbdchmaa.slot
set_option maxRecDepth 20000
open Go.RowKit Go.Proofs.Ytlipgnenbdchmaa Go.Proofs.Ytlipgnenbdchmaa.disk
section
variable {fs:List FileD} {nm x:ByteArray} {b:List Nat} {keep:List Int}
theorem empty_look (h:Row fs) (hx:x≠nm):disk.look x (emptyF fs nm)=disk.look x fs:=by
 unfold emptyF
 split
 ·rfl
 ·exact look_other h (by rw [cut_name];exact hx)
theorem app_look (h:Row fs) (hx:x≠nm):disk.look x (appF fs nm b)=disk.look x fs:=look_other h (by rw [appF_name];exact hx)
theorem sync_look (h:Row fs) (hx:x≠nm):disk.look x (syncF fs nm)=disk.look x fs:=look_other h (fun e=>hx (e.trans (old_name nm fs)))
theorem kept_look (h:Row fs) (hs:Sures fs) (hx:x≠nm):disk.look x (backF keep (appF fs nm b))=disk.look x fs:=by
 have hap:disk.look x (appF fs nm b)=disk.look x fs:=app_look h hx
 have hrow:Row (appF fs nm b):=row_with _ h
 rcases back_look (keep:=keep) (nm:=x) hrow with ⟨e1,e2⟩ | ⟨f,i,e1,e2⟩
 ·rw [e2,← hap,e1]
 ·rw [hap] at e1
  rw [e2,e1,kept_again (hs f (look_some e1).1)]
end
section
variable {d:DiskD} {s was:Sl} {f:Int} {keep:List Int} {r:DiskD × Int} {nm:ByteArray} {b:List Nat}
theorem wrote_look (hr:rightB d=true) (hs:Sures d.files) (h:Wrote d nm b r) {x:ByteArray} (hx:x≠nm):disk.look x (backF keep r.1.files)=disk.look x d.files:=by
 obtain ⟨_,hok,hrow,_⟩:=right_files hr
 have e1:=empty_row (nm:=nm) hrow
 have e3:=empty_old (nm:=nm) hrow hok
 have e4:=empty_sures (nm:=nm) hrow hok hs
 rcases h.c with ⟨h0,hf⟩ | ⟨h0,hf⟩ | ⟨h0,_,hf | hf | hf⟩<;>rw [hf]
 ·have hra:Row (appF (emptyF d.files nm) nm b):=row_with _ e1
  rw [back_same (sync_sures (b:=b) e1 e3 e4),sync_look hra hx,app_look e1 hx,empty_look hrow hx]
 ·rw [back_same e4,empty_look hrow hx]
 ·rw [back_same hs]
 ·rw [back_same e4,empty_look hrow hx]
 ·rw [kept_look e1 e4 hx,empty_look hrow hx]
theorem val_err (h:valF d.files=(was,f)):f=0∨f=7:=by
 rcases val_cases h with ⟨_,e,_⟩ | ⟨_,e,_⟩
 ·exact .inr e
 ·exact .inl e
theorem back_sures (hr:rightB d=true):Sures (backF keep d.files):=fun g hg=>by
 obtain ⟨i,f,_,hf,rfl⟩:=mem_back hg
 exact (kept_ok (keep:=keep) (i:=i) ((right_files hr).2.1 f hf)).2.2.1
theorem steps_of (hr:rightB d=true) (hd:d.down=false) (hv:valF d.files=(was,f)) (hg:s.g=was.g+1) (hrs:slot.right s=true):Wrote d (nameV s.g) (slot.enc s) (writeS d s):=by
 have h9:¬ (readS d).2=9:=by
  rw [reads_up hr hd,hv]
  rcases val_err hv with rfl | rfl
  ·exact fun h=>absurd h (show ¬ (0:Int)=9 by decide)
  ·exact fun h=>absurd h (show ¬ (7:Int)=9 by decide)
 have ha:againstS d s=0:=ag_0 hr hrs h9 (by rw [reads_up hr hd,hv];exact hg)
 rw [wr_yes ha]
 exact steps_wrote hr hd (named_v _)
theorem keeps {l:Int} {D X B:DiskD} {now:Sl} {g h i:Int} (hr:rightB D=true) (hd:D.down=false) (hs:Sures D.files) (hR:readS D=(was,f)) (hw:was.g < 999999999) (hl:0≤l∧l≤1000000000) (hW:writeS D ⟨was.g+1,l⟩=(X,g)) (hB:backD X keep (-1)=(B,h)) (hN:readS B=(now,i)) :
  h=0∧(g=0→now=⟨was.g+1,l⟩∧i=0)∧(now=⟨was.g+1,l⟩∨(now=was∧i=f))∧(∀ F ∈ D.files,F.name≠nameV (was.g+1)→readD B F.name=(F.data,0))∧∀ Y q,writeS B ⟨now.g+1,l⟩=(Y,q)→q=0∨q=6:=by
 have hv:valF D.files=(was,f):=by rw [← reads_up hr hd];exact hR
 have hrng:=val_rng hv
 have hrs:slot.right ⟨was.g+1,l⟩=true:=right_iff.2 ⟨by show 1≤was.g+1;omega,by show was.g+1≤1000000000;omega,hl.1,hl.2⟩
 have hwr:=steps_of (s:=⟨was.g+1,l⟩) hr hd hv rfl hrs
 rw [hW] at hwr
 have hX:=hwr.right
 have hb:=back_of hX keep (k := -1) (by omega)
 simp only at hX hb
 rw [hb] at hB
 injection hB with hB hh
 subst hB
 have hBr:rightB (⟨backF keep X.files,X.room, -1,false⟩:DiskD)=true:=by have:=right_back (keep:=keep) (fuse := -1) hX;rw [hb] at this;exact this
 have hBv:valF (backF keep X.files)=(now,i):=by have:=reads_up hBr rfl;rw [hN] at this;exact this.symm
 obtain ⟨k1,k2,k3⟩:=wrote_back (keep:=keep) hr hs hv rfl hrs hwr
 simp only at k1 k2 k3
 rw [hBv] at k1 k2
 have hnw:now=⟨was.g+1,l⟩∨(now=was∧i=f):=by
  rcases k2 with e | e
  ·exact .inl (Prod.mk.inj e).1
  ·exact .inr ⟨(Prod.mk.inj e).1,(Prod.mk.inj e).2⟩
 refine ⟨hh.symm,fun h0=>⟨(Prod.mk.inj (k1 h0)).1,(Prod.mk.inj (k1 h0)).2⟩,hnw,fun F hF hne=>?_,fun Y q hq=>?_⟩
 ·have hlk:=wrote_look (keep:=keep) hr hs hwr hne
  rw [look_of (right_files hr).2.2.1 hF] at hlk
  have hnm:=((file_iff F).1 ((right_files hr).2.1 F hF)).1
  unfold readD
  rw [first_up hBr rfl,hnm]
  simp only [Bool.and_self,if_true,ne_eq,not_true_eq_false,if_false]
  simp only at hlk
  rw [hlk]
 ·have hng:0≤now.g∧now.g≤was.g+1:=by
   rcases hnw with e | ⟨e,_⟩<;>rw [e]
   ·exact ⟨by show 0≤was.g+1;omega,Int.le_refl _⟩
   ·exact ⟨hrng.1,by omega⟩
  have hrs2:slot.right ⟨now.g+1,l⟩=true:=right_iff.2 ⟨by show 1≤now.g+1;omega,by show now.g+1≤1000000000;omega,hl.1,hl.2⟩
  have h2:=steps_of (d:=⟨backF keep X.files,X.room, -1,false⟩) (s:=⟨now.g+1,l⟩) hBr rfl hBv rfl hrs2
  rw [hq] at h2
  rcases h2.c with ⟨h0,_⟩ | ⟨h0,_⟩ | ⟨_,h0,_⟩
  ·exact .inl h0
  ·exact .inr h0
  ·exact absurd rfl h0
end
section
variable {fs:List FileD} {nm:ByteArray} {b:List Nat} {keep:List Int}
end
end Go.Proofs.Ytlipgnenbdchmaa.slot
end
section
namespace Go.Proofs.Ytlipgnenbdchmaa.slot
open Go.RowKit Go.Proofs.Ytlipgnenbdchmaa Go.Proofs.Ytlipgnenbdchmaa.disk
open Go.Proofs.Ytlipgnenbdchmaa.wal (Dv dc InD RetD RetB keeps_d)
set_option maxRecDepth 20000
section
variable {w0:World} {D:List Fact} {S:Nat→Prop} {W:World} {u:Dv} {t:DiskD} {s:Sl}
theorem g_swrite {r:DiskD × Int} (e:writeS t s=r) (hF:Fixed w0 D S W) (hin:∀ w,Below w0.heap.size w0 w→All D w→InD w S u t) (hs:shortB t.files=true) :
  GivesM Try.prog w0 D 18 #[.agg (dc u t),.agg (sc s)] (Dat (fun w S v=>InD w S v r.1) S W) (fun x=>.tuple #[.agg (dc x.1.2.2 r.1),.int .i64 r.2]) (fun x=>[poolF x.1.1 x.1.2.1]):=by
 subst e
 exact gives_dat (R:=fun w S v=>InD w S v (writeS t s).1) (r:=fun b=>.tuple #[.agg (dc b (writeS t s).1),.int .i64 (writeS t s).2]) hF (fun w hw ha=>v_write u t s S w (hin w hw ha) (hF w hw ha).2 hs)
theorem g_slread {q:Sl × Int} (e:readS t=q) (hd:∀ w,Below w0.heap.size w0 w→All D w→InD w (Lt w.heap.size) u t) (hs:shortB t.files=true):Gives Try.prog w0 D 16 #[.agg (dc u t)] (.tuple #[.agg (sc q.1),.int .i64 q.2]):=by
 subst e;exact g_sread2 hd hs
theorem g_short (hd:∀ w,Below w0.heap.size w0 w→All D w→InD w (Lt w.heap.size) u t):Gives Try.prog w0 D 7 #[.agg (dc u t)] (.bool (shortB t.files)):=fun w hw ha =>
 disk.rshort u.A t.files.length u.c t.room t.fuse t.down t.files w (hd w hw ha).files rfl (Nat.le_trans (hd w hw ha).l (hd w hw ha).c)
end
theorem run_eq2 (a b:Sl) (ha:a.fine) (hb:b.fine) (W:World):(Op.equalIn 10000 26 (.agg (sc a)) (.agg (sc b))).run Try.prog W = .ok (decide (a=b)) W:=by
 have kl:∀ s:Sl,s.fine→Try.prog.keyLits 2 26 (sc s).toList=some [.int .i64 s.g,.int .i64 s.l]:=by
  intro s h
  have h1:(Lit.int .i64 s.g).wf=true:=rec.wf64 h.1
  have h2:(Lit.int .i64 s.l).wf=true:=rec.wf64 h.2
  rw [kl_struct 1 _ Try.underlying26 (by kernel_rfl) (by kernel_rfl)]
  have c1:Try.prog.cellsOf 2=1:=by kernel_rfl
  simp [c1,sc,kl_int 0 _ Try.underlying2,h1,h2]
 refine run_eq_by (by kernel_rfl) 2 (by kernel_rfl) (by kernel_rfl) (kl a ha) (kl b hb) _ ?_ W
 obtain ⟨a1,a2⟩:=a
 obtain ⟨b1,b2⟩:=b
 simp
section
variable {w0:World} {D:List Fact} {a b:Sl}
theorem slot_eql (ha:a.fine) (hb:b.fine) (ox oy:Operand):Yields0 Try.prog w0 D (do eqGuard .eql 26 ox oy (.agg (sc a)) (.agg (sc b));Go.binOp .eql 26 (.agg (sc a)) (.agg (sc b))) (.bool (decide (a=b))):=eql_agg (by kernel_rfl) (run_eq2 a b ha hb) ox oy
theorem slot_neq (ha:a.fine) (hb:b.fine) (ox oy:Operand):Yields0 Try.prog w0 D (do eqGuard .neq 26 ox oy (.agg (sc a)) (.agg (sc b));Go.binOp .neq 26 (.agg (sc a)) (.agg (sc b))) (.bool (!decide (a=b))):=neq_agg (by kernel_rfl) (run_eq2 a b ha hb) ox oy
end
theorem sz_fine:sz.fine:=⟨⟨by decide,by decide⟩,⟨by decide,by decide⟩⟩
theorem reads_fine (t:DiskD):(readS t).1.fine:=by
 have h:∀ L nm n,Sl.fine n→Sl.fine (pickS L nm n):=fun L nm n hn=>by
  rcases pick_cases L nm n with e | ⟨e,h2⟩
  ·rw [e];exact hn
  ·rw [e];exact right_fine (dec_ok h2).1
 unfold readS
 split
 ·exact sz_fine
 ·split
  ·exact sz_fine
  ·split
   ·exact sz_fine
   ·exact h _ _ _ (h _ _ _ sz_fine)
theorem nil_d {w:World} {S:Nat→Prop} {r f:Int} {dn:Bool} (hr:inI r) (hf:inI f):InD w S ⟨none,0,[]⟩ ⟨[],r,f,dn⟩:=⟨fun h=>absurd h (by simp),rfl,Nat.zero_le _,Nat.zero_le _,hr,hf⟩
theorem write_short {t:DiskD} {s:Sl} (h:shortB t.files=true):shortB (writeS t s).1.files=true:=by
 unfold writeS
 split
 ·rename_i h0
  have hr:=ag_right h0
  unfold stepsD
  split
  ·split
   ·exact right_short (right_sync (right_append (empty_right hr)))
   ·exact right_short (right_append (empty_right hr))
  ·exact right_short (empty_right hr)
 ·exact h
theorem back_short {t:DiskD} {keep:List Int} {f:Int} (hs:shortB t.files=true):shortB (backD t keep f).1.files=true:=by
 cases hr:rightB t with
 |true=>exact right_short (right_back hr)
 |false=>unfold backD;rw [if_neg (by rw [hr];simp)];exact hs
theorem InD.fz {w:World} {S:Nat→Prop} {u:Dv} {t:DiskD} {k:Int} (h:InD w S u t) (hk:inI k):InD w S u ⟨t.files,t.room,k,t.down⟩:=⟨h.f,h.m,h.l,h.c,h.r,hk⟩
end Go.Proofs.Ytlipgnenbdchmaa.slot
end
