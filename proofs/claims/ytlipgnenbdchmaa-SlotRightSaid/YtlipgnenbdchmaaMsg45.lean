/-
  SlotP, SlotG
-/
import Derived.Test.YtlipgnenbdchmaaMsg44
import Derived.Test.YtlipgnenbdchmaaMsg24
import Derived.Test.YtlipgnenbdchmaaMsg38
import Derived.Test.YtlipgnenbdchmaaMsg11
import Derived.Test.YtlipgnenbdchmaaMsg42
set_option linter.unusedVariables false
set_option linter.unusedSimpArgs false
section
namespace Go.Proofs.Ytlipgnenbdchmaa.slot
set_option maxRecDepth 20000
open Go.RowKit Go.Proofs.Ytlipgnenbdchmaa Go.Proofs.Ytlipgnenbdchmaa.disk
def held (fs:List FileD) (nm:ByteArray):List Nat:=match disk.look nm fs with
 |some f=>f.data
 |none=>[]
theorem held_none {fs:List FileD} {nm:ByteArray} (h:disk.look nm fs=none):held fs nm=[]:=by unfold held;rw [h]
theorem read_up {d:DiskD} {nm:ByteArray} (hr:rightB d=true) (hd:d.down=false) (hn:named nm=true):(readD d nm).1=held d.files nm∧¬ ((readD d nm).2=1∨(readD d nm).2=9):=by
 unfold readD held
 rw [first_up hr hd,hn]
 simp only [Bool.and_self,if_true,ne_eq,not_true_eq_false,if_false]
 cases disk.look nm d.files<;>simp
theorem named_even:named nEven=true:=by decide +kernel
theorem named_odd:named nOdd=true:=by decide +kernel
theorem even_odd:nEven≠nOdd:=by decide
theorem named_v (g:Int):named (nameV g)=true:=by unfold nameV;split;exact named_even;exact named_odd
def valR (E O:List Nat):Sl × Int:=if (pickS O nOdd (pickS E nEven sz)).g=0 then (sz,7) else (pickS O nOdd (pickS E nEven sz),0)
def valF (fs:List FileD):Sl × Int:=valR (held fs nEven) (held fs nOdd)
theorem reads_up {d:DiskD} (hr:rightB d=true) (hd:d.down=false):readS d=valF d.files:=by
 obtain ⟨e1,e2⟩:=read_up hr hd named_even
 obtain ⟨o1,o2⟩:=read_up hr hd named_odd
 unfold readS valF valR
 rw [if_neg e2,if_neg o2,e1,o1]
section
variable {E O L:List Nat} {was s n:Sl} {f:Int} {nm:ByteArray}
theorem pick_right (h:pickS L nm n≠n):right (pickS L nm n)=true∧nameV (pickS L nm n).g=nm∧n.g < (pickS L nm n).g:=by
 unfold pickS at h ⊢
 split
 ·rename_i hc
  exact ⟨(dec_ok hc.1).1,hc.2⟩
 ·rename_i hc
  rw [if_neg hc] at h
  exact absurd rfl h
theorem nameV_two (g:Int):nameV g=nEven∨nameV g=nOdd:=by unfold nameV;split;exact .inl rfl;exact .inr rfl
theorem val_cases (h:valR E O=(was,f)):(was=sz∧f=7∧pickS E nEven sz=sz∧pickS O nOdd sz=sz)∨(1≤was.g∧f=0∧right was=true∧pickS O nOdd (pickS E nEven sz)=was):=by
 unfold valR at h
 have ha:pickS E nEven sz=sz∨1≤(pickS E nEven sz).g:=by
  by_cases e:pickS E nEven sz=sz
  ·exact .inl e
  ·have:=right_iff.1 (pick_right e).1;exact .inr this.1
 split at h
 ·rename_i h0
  injection h with h1 h2
  have hb:pickS O nOdd (pickS E nEven sz)=pickS E nEven sz:=by
   by_cases e:pickS O nOdd (pickS E nEven sz)=pickS E nEven sz
   ·exact e
   ·have:=right_iff.1 (pick_right e).1;omega
  rw [hb] at h0
  have hz:pickS E nEven sz=sz:=by
   rcases ha with e | e
   ·exact e
   ·omega
  rw [hz] at hb
  exact .inl ⟨h1.symm,h2.symm,hz,hb⟩
 ·rename_i h0
  injection h with h1 h2
  refine .inr ?_
  have hr:right (pickS O nOdd (pickS E nEven sz))=true:=by
   by_cases e:pickS O nOdd (pickS E nEven sz)=pickS E nEven sz
   ·rw [e] at h0 ⊢
    by_cases e2:pickS E nEven sz=sz
    ·rw [e2] at h0;exact absurd rfl h0
    ·exact (pick_right e2).1
   ·exact (pick_right e).1
  rw [h1] at hr
  exact ⟨(right_iff.1 hr).1,h2.symm,hr,h1⟩
end
section
variable {fs gs:List FileD} {was s:Sl} {f:Int}
end
section
variable {fs:List FileD} {nm:ByteArray} {b:List Nat} {keep:List Int}
end
theorem n97:¬ (9:Int)=7:=by decide
theorem n07:¬ (0:Int)=7:=by decide
section
variable {d:DiskD} {s was:Sl} {f:Int} {keep:List Int} {r:DiskD × Int}
end
end Go.Proofs.Ytlipgnenbdchmaa.slot
end
section
namespace Go.Proofs.Ytlipgnenbdchmaa.slot
open Go.RowKit Go.Proofs.Ytlipgnenbdchmaa Go.Proofs.Ytlipgnenbdchmaa.disk
open Go.Proofs.Ytlipgnenbdchmaa.wal (Dv dc InD RetD RetB keeps_d)
set_option maxRecDepth 20000
section
variable {w0:World} {D:List Fact} {S:Nat→Prop} {W:World} {u:Dv} {t:DiskD} {s:Sl}
theorem g_swrite {r:DiskD × Int} (e:writeS t s=r) (hF:Fixed w0 D S W) (hin:∀ w,Below w0.heap.size w0 w→All D w→InD w S u t) (hs:shortB t.files=true) :
  GivesM Try.prog w0 D 18 #[.agg (dc u t),.agg (sc s)] (Dat (fun w S v=>InD w S v r.1) S W) (fun x=>.tuple #[.agg (dc x.1.2.2 r.1),.int .i64 r.2]) (fun x=>[poolF x.1.1 x.1.2.1]):=by
 subst e
 exact gives_dat (R:=fun w S v=>InD w S v (writeS t s).1) (r:=fun b=>.tuple #[.agg (dc b (writeS t s).1),.int .i64 (writeS t s).2]) hF (fun w hw ha=>v_write u t s S w (hin w hw ha) (hF w hw ha).2 hs)
theorem g_slread {q:Sl × Int} (e:readS t=q) (hd:∀ w,Below w0.heap.size w0 w→All D w→InD w (Lt w.heap.size) u t) (hs:shortB t.files=true):Gives Try.prog w0 D 16 #[.agg (dc u t)] (.tuple #[.agg (sc q.1),.int .i64 q.2]):=by
 subst e;exact g_sread2 hd hs
theorem g_short (hd:∀ w,Below w0.heap.size w0 w→All D w→InD w (Lt w.heap.size) u t):Gives Try.prog w0 D 7 #[.agg (dc u t)] (.bool (shortB t.files)):=fun w hw ha =>
 disk.rshort u.A t.files.length u.c t.room t.fuse t.down t.files w (hd w hw ha).files rfl (Nat.le_trans (hd w hw ha).l (hd w hw ha).c)
end
theorem run_eq2 (a b:Sl) (ha:a.fine) (hb:b.fine) (W:World):(Op.equalIn 10000 26 (.agg (sc a)) (.agg (sc b))).run Try.prog W = .ok (decide (a=b)) W:=by
 have kl:∀ s:Sl,s.fine→Try.prog.keyLits 2 26 (sc s).toList=some [.int .i64 s.g,.int .i64 s.l]:=by
  intro s h
  have h1:(Lit.int .i64 s.g).wf=true:=rec.wf64 h.1
  have h2:(Lit.int .i64 s.l).wf=true:=rec.wf64 h.2
  rw [kl_struct 1 _ Try.underlying26 (by kernel_rfl) (by kernel_rfl)]
  have c1:Try.prog.cellsOf 2=1:=by kernel_rfl
  simp [c1,sc,kl_int 0 _ Try.underlying2,h1,h2]
 refine run_eq_by (by kernel_rfl) 2 (by kernel_rfl) (by kernel_rfl) (kl a ha) (kl b hb) _ ?_ W
 obtain ⟨a1,a2⟩:=a
 obtain ⟨b1,b2⟩:=b
 simp
section
variable {w0:World} {D:List Fact} {a b:Sl}
theorem slot_eql (ha:a.fine) (hb:b.fine) (ox oy:Operand):Yields0 Try.prog w0 D (do eqGuard .eql 26 ox oy (.agg (sc a)) (.agg (sc b));Go.binOp .eql 26 (.agg (sc a)) (.agg (sc b))) (.bool (decide (a=b))):=eql_agg (by kernel_rfl) (run_eq2 a b ha hb) ox oy
theorem slot_neq (ha:a.fine) (hb:b.fine) (ox oy:Operand):Yields0 Try.prog w0 D (do eqGuard .neq 26 ox oy (.agg (sc a)) (.agg (sc b));Go.binOp .neq 26 (.agg (sc a)) (.agg (sc b))) (.bool (!decide (a=b))):=neq_agg (by kernel_rfl) (run_eq2 a b ha hb) ox oy
end
theorem sz_fine:sz.fine:=⟨⟨by decide,by decide⟩,⟨by decide,by decide⟩⟩
theorem reads_fine (t:DiskD):(readS t).1.fine:=by
 have h:∀ L nm n,Sl.fine n→Sl.fine (pickS L nm n):=fun L nm n hn=>by
  rcases pick_cases L nm n with e | ⟨e,h2⟩
  ·rw [e];exact hn
  ·rw [e];exact right_fine (dec_ok h2).1
 unfold readS
 split
 ·exact sz_fine
 ·split
  ·exact sz_fine
  ·split
   ·exact sz_fine
   ·exact h _ _ _ (h _ _ _ sz_fine)
theorem nil_d {w:World} {S:Nat→Prop} {r f:Int} {dn:Bool} (hr:inI r) (hf:inI f):InD w S ⟨none,0,[]⟩ ⟨[],r,f,dn⟩:=⟨fun h=>absurd h (by simp),rfl,Nat.zero_le _,Nat.zero_le _,hr,hf⟩
theorem write_short {t:DiskD} {s:Sl} (h:shortB t.files=true):shortB (writeS t s).1.files=true:=by
 unfold writeS
 split
 ·rename_i h0
  have hr:=ag_right h0
  unfold stepsD
  split
  ·split
   ·exact right_short (right_sync (right_append (empty_right hr)))
   ·exact right_short (right_append (empty_right hr))
  ·exact right_short (empty_right hr)
 ·exact h
theorem InD.fz {w:World} {S:Nat→Prop} {u:Dv} {t:DiskD} {k:Int} (h:InD w S u t) (hk:inI k):InD w S u ⟨t.files,t.room,k,t.down⟩:=⟨h.f,h.m,h.l,h.c,h.r,hk⟩
end Go.Proofs.Ytlipgnenbdchmaa.slot
end
