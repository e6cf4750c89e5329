/-
  DskG, DskR
-/
import Derived.Test.YtlipgnenbdchmaaMsg37
import Derived.Test.YtlipgnenbdchmaaMsg38
import Derived.Test.YtlipgnenbdchmaaMsg48
import Derived.Test.YtlipgnenbdchmaaMsg51
set_option linter.unusedVariables false
set_option linter.unusedSimpArgs false
section
namespace Go.Proofs.Ytlipgnenbdchmaa.dsk
set_option maxRecDepth 20000
open Go.RowKit Go.Proofs.Ytlipgnenbdchmaa Go.Proofs.Ytlipgnenbdchmaa.disk Go.Proofs.Ytlipgnenbdchmaa.wal
theorem low_alike {S:Nat→Prop} {w w' : World} (hS:∀ k,S k→k < w.heap.size) (hb:Below w.heap.size w w'):Alike S w w':=fun b o h=>hb.cell (p:=⟨b,o,none⟩) (hS b h)
abbrev RB (bs:List Nat):World→(Nat→Prop)→Option Addr × Nat→Prop:=fun w S b=>BysIn w S b.1 bs∧bs.length≤b.2∧b.2≤maxLen
theorem keeps_bys (bs:List Nat):Keeps3 (RB bs):=fun w w' S S' b h ha hs=>⟨IntsIn.keep h.1 ha.alike hs,h.2⟩
section
variable {w0:World} {D:List Fact} {S:Nat→Prop} {W:World} {u:Dv} {t:DiskD} {r:DiskD × Int}
theorem g_right {b:Bool} (e:rightB t=b) (hin:∀ w,Below w0.heap.size w0 w→All D w→InD w (Lt w.heap.size) u t) (hs:shortB t.files=true):Gives Try.prog w0 D 40 #[.agg (dc u t)] (.bool b):=fun w hw ha=>by
 subst e;exact d_right (fun _ h=>h) (hin w hw ha) hs
theorem g_append {A:Option Addr} {c:Nat} {bs:List Nat} {nm:ByteArray} (e:appendD t nm bs=r) (hF:Fixed w0 D S W) (hin:∀ w,Below w0.heap.size w0 w→All D w→InD w S u t) (hs:shortB t.files=true) (hn:nm.size≤100) (hb:∀ w,Below w0.heap.size w0 w→All D w→BysIn w S A bs∧bs.length≤c∧c≤maxLen) (hl:bs.length≤70000) :
  GivesM Try.prog w0 D 32 #[.agg (dc u t),.string nm,.slice A bs.length c] (Dat (fun w S v=>InD w S v r.1) S W) (fun x=>.tuple #[.agg (dc x.1.2.2 r.1),.int .i64 r.2]) (fun x=>[poolF x.1.1 x.1.2.1]):=by
 subst e
 exact gives_dat (R:=fun w S v=>InD w S v (appendD t nm bs).1) (r:=fun b=>.tuple #[.agg (dc b (appendD t nm bs).1),.int .i64 (appendD t nm bs).2]) hF (fun w hw ha=>d_append (hF w hw ha).2 (hin w hw ha) hs hn (hb w hw ha).1 (hb w hw ha).2.1 (hb w hw ha).2.2 hl)
theorem g_sync {nm:ByteArray} (e:syncD t nm=r) (hF:Fixed w0 D S W) (hin:∀ w,Below w0.heap.size w0 w→All D w→InD w S u t) (hs:shortB t.files=true) (hn:nm.size≤100) :
  GivesM Try.prog w0 D 34 #[.agg (dc u t),.string nm] (Dat (fun w S v=>InD w S v r.1) S W) (fun x=>.tuple #[.agg (dc x.1.2.2 r.1),.int .i64 r.2]) (fun x=>[poolF x.1.1 x.1.2.1]):=by
 subst e
 exact gives_dat (R:=fun w S v=>InD w S v (syncD t nm).1) (r:=fun b=>.tuple #[.agg (dc b (syncD t nm).1),.int .i64 (syncD t nm).2]) hF (fun w hw ha=>d_sync (hF w hw ha).2 (hin w hw ha) hs hn)
theorem g_cut {nm:ByteArray} {k:Int} (e:cutD t nm k=r) (hF:Fixed w0 D S W) (hin:∀ w,Below w0.heap.size w0 w→All D w→InD w S u t) (hs:shortB t.files=true) (hn:nm.size≤100) (hk:inI k) :
  GivesM Try.prog w0 D 49 #[.agg (dc u t),.string nm,.int .i64 k] (Dat (fun w S v=>InD w S v r.1) S W) (fun x=>.tuple #[.agg (dc x.1.2.2 r.1),.int .i64 r.2]) (fun x=>[poolF x.1.1 x.1.2.1]):=by
 subst e
 exact gives_dat (R:=fun w S v=>InD w S v (cutD t nm k).1) (r:=fun b=>.tuple #[.agg (dc b (cutD t nm k).1),.int .i64 (cutD t nm k).2]) hF (fun w hw ha=>d_cut (hF w hw ha).2 (hin w hw ha) hs hn hk)
theorem g_read {nm:ByteArray} {q:List Nat × Int} (e:readD t nm=q) (hF:Fixed w0 D S W) (hin:∀ w,Below w0.heap.size w0 w→All D w→InD w S u t) (hs:shortB t.files=true) (hn:nm.size≤100) :
  GivesM Try.prog w0 D 22 #[.agg (dc u t),.string nm] (Dat (RB q.1) S W) (fun x=>.tuple #[.slice x.1.2.2.1 q.1.length x.1.2.2.2,.int .i64 q.2]) (fun x=>[poolF x.1.1 x.1.2.1]):=by
 subst e
 exact gives_dat (R:=RB (readD t nm).1) (r:=fun b=>.tuple #[.slice b.1 (readD t nm).1.length b.2,.int .i64 (readD t nm).2]) hF (fun w hw ha=>(d_read (hF w hw ha).2 (hin w hw ha) hs hn).mono (by
  rintro e w' ⟨b,rfl,h1,h2,h3,h4⟩
  exact ⟨b,rfl,h1,h2,h3,h4⟩))
end
end Go.Proofs.Ytlipgnenbdchmaa.dsk
end
section
namespace Go.Proofs.Ytlipgnenbdchmaa.dsk
set_option maxRecDepth 20000
open Go.RowKit Go.Proofs.Ytlipgnenbdchmaa Go.Proofs.Ytlipgnenbdchmaa.disk Go.Proofs.Ytlipgnenbdchmaa.wal
section
variable {w0:World} {D:List Fact} {S:Nat→Prop} {W:World} {u u2:Dv} {t:DiskD} {r:DiskD × Int}
theorem g_rright {b:Bool} (e:rightB t=b) (hin:∀ w,Below w0.heap.size w0 w→All D w→InD w (Lt w.heap.size) u t):Gives Try.prog w0 D 26 #[.agg (dc u t)] (.bool b):=fun w hw ha=>by
 subst e
 exact disk.rright u.A t.files.length u.c t.room t.fuse t.down t.files w (hin w hw ha).files rfl (Nat.le_trans (hin w hw ha).l (hin w hw ha).c) (hin w hw ha).r (hin w hw ha).u
theorem g_rfind {nm:ByteArray} {k:Int} (e:findI t.files nm=k) (hin:∀ w,Below w0.heap.size w0 w→All D w→InD w (Lt w.heap.size) u t):Gives Try.prog w0 D 35 #[.agg (dc u t),.string nm] (.int .i64 k):=fun w hw ha=>by
 subst e
 exact disk.rfind u.A t.files.length u.c t.room t.fuse t.down nm t.files w (hin w hw ha).files rfl (Nat.le_trans (hin w hw ha).l (hin w hw ha).c)
theorem d_rappend {w:World} (hS:∀ k,S k→k < w.heap.size) (h:InD w S u t) (hs:shortB t.files=true) {nm:ByteArray} (hn:nm.size≤100) {Ab:Option Addr} {cb:Nat} {bs:List Nat} (hb:BysIn w S Ab bs) (hl:bs.length≤70000):Calls Try.prog 37 #[.agg (dc u t),.string nm,.slice Ab bs.length cb] w (RetD S w (appendD t nm bs)) :=
 (disk.rappend u.A t.files.length u.c t.room t.fuse t.down nm Ab bs.length cb bs t.files S w hS h.files rfl (by have:=(short_iff.1 hs).1;omega) h.l h.c h.r h.u (by unfold maxLen;omega) hb rfl (by omega) (by have:=(short_iff.1 hs).2.2;omega) (fun f hf=>by have:=(short_iff.1 hs).2.1 f hf;omega)).mono fun e w'=>ret_d (op_in h.r h.u)
theorem g_rappend {A:Option Addr} {c:Nat} {bs:List Nat} {nm:ByteArray} (e:appendD t nm bs=r) (hF:Fixed w0 D S W) (hin:∀ w,Below w0.heap.size w0 w→All D w→InD w S u t) (hs:shortB t.files=true) (hn:nm.size≤100) (hb:∀ w,Below w0.heap.size w0 w→All D w→BysIn w S A bs) (hl:bs.length≤70000) :
  GivesM Try.prog w0 D 37 #[.agg (dc u t),.string nm,.slice A bs.length c] (Dat (fun w S v=>InD w S v r.1) S W) (fun x=>.tuple #[.agg (dc x.1.2.2 r.1),.int .i64 r.2]) (fun x=>[poolF x.1.1 x.1.2.1]):=by
 subst e
 exact gives_dat (R:=fun w S v=>InD w S v (appendD t nm bs).1) (r:=fun b=>.tuple #[.agg (dc b (appendD t nm bs).1),.int .i64 (appendD t nm bs).2]) hF (fun w hw ha=>d_rappend (hF w hw ha).2 (hin w hw ha) hs hn (hb w hw ha) hl)
theorem d_rsync {w:World} (hS:∀ k,S k→k < w.heap.size) (h:InD w S u t) (hs:shortB t.files=true) {nm:ByteArray} (hn:nm.size≤100):Calls Try.prog 38 #[.agg (dc u t),.string nm] w (RetD S w (syncD t nm)) :=
 (disk.rsync u.A t.files.length u.c t.room t.fuse t.down nm t.files S w hS h.files rfl (by have:=(short_iff.1 hs).1;omega) h.l h.c h.r h.u (by unfold maxLen;omega)).mono fun e w'=>ret_d (op_in h.r h.u)
theorem g_rsync {nm:ByteArray} (e:syncD t nm=r) (hF:Fixed w0 D S W) (hin:∀ w,Below w0.heap.size w0 w→All D w→InD w S u t) (hs:shortB t.files=true) (hn:nm.size≤100) :
  GivesM Try.prog w0 D 38 #[.agg (dc u t),.string nm] (Dat (fun w S v=>InD w S v r.1) S W) (fun x=>.tuple #[.agg (dc x.1.2.2 r.1),.int .i64 r.2]) (fun x=>[poolF x.1.1 x.1.2.1]):=by
 subst e
 exact gives_dat (R:=fun w S v=>InD w S v (syncD t nm).1) (r:=fun b=>.tuple #[.agg (dc b (syncD t nm).1),.int .i64 (syncD t nm).2]) hF (fun w hw ha=>d_rsync (hF w hw ha).2 (hin w hw ha) hs hn)
theorem d_rcut {w:World} (hS:∀ k,S k→k < w.heap.size) (h:InD w S u t) (hs:shortB t.files=true) {nm:ByteArray} (hn:nm.size≤100) {k:Int} (hk:inI k):Calls Try.prog 36 #[.agg (dc u t),.string nm,.int .i64 k] w (RetD S w (cutD t nm k)) :=
 (disk.rcut u.A t.files.length u.c t.room t.fuse t.down nm k t.files S w hS h.files rfl (by have:=(short_iff.1 hs).1;omega) h.l h.c h.r h.u (by unfold maxLen;omega) hk).mono fun e w'=>ret_d (op_in h.r h.u)
theorem g_rcut {nm:ByteArray} {k:Int} (e:cutD t nm k=r) (hF:Fixed w0 D S W) (hin:∀ w,Below w0.heap.size w0 w→All D w→InD w S u t) (hs:shortB t.files=true) (hn:nm.size≤100) (hk:inI k) :
  GivesM Try.prog w0 D 36 #[.agg (dc u t),.string nm,.int .i64 k] (Dat (fun w S v=>InD w S v r.1) S W) (fun x=>.tuple #[.agg (dc x.1.2.2 r.1),.int .i64 r.2]) (fun x=>[poolF x.1.1 x.1.2.1]):=by
 subst e
 exact gives_dat (R:=fun w S v=>InD w S v (cutD t nm k).1) (r:=fun b=>.tuple #[.agg (dc b (cutD t nm k).1),.int .i64 (cutD t nm k).2]) hF (fun w hw ha=>d_rcut (hF w hw ha).2 (hin w hw ha) hs hn hk)
theorem g_rsame (hd:∀ w,Below w0.heap.size w0 w→All D w→InD w (Lt w.heap.size) u t) (h2:∀ w,Below w0.heap.size w0 w→All D w→InD w (Lt w.heap.size) u2 t):Gives Try.prog w0 D 20 #[.agg (dc u t),.agg (dc u2 t)] (.bool true):=fun w hw ha =>
 disk.rsame_yes u.A u2.A t.files.length u.c u2.c w.heap.size t.room t.fuse t.down t.files w (Nat.le_refl _) (hd w hw ha).files (h2 w hw ha).files rfl (Nat.le_trans (hd w hw ha).l (hd w hw ha).c)
end
end Go.Proofs.Ytlipgnenbdchmaa.dsk
end
