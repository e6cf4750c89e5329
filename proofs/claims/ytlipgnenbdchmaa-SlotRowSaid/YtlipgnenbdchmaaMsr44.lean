/-
  DskG
-/
import Derived.Test.YtlipgnenbdchmaaMsr41
import Derived.Test.YtlipgnenbdchmaaMsr43
set_option linter.unusedVariables false
set_option linter.unusedSimpArgs false
namespace Go.Proofs.Ytlipgnenbdchmaa.dsk
set_option maxRecDepth 20000
open Go.RowKit Go.Proofs.Ytlipgnenbdchmaa Go.Proofs.Ytlipgnenbdchmaa.disk Go.Proofs.Ytlipgnenbdchmaa.wal
theorem low_alike {S:Nat→Prop} {w w' : World} (hS:∀ k,S k→k < w.heap.size) (hb:Below w.heap.size w w'):Alike S w w':=fun b o h=>hb.cell (p:=⟨b,o,none⟩) (hS b h)
abbrev RB (bs:List Nat):World→(Nat→Prop)→Option Addr × Nat→Prop:=fun w S b=>BysIn w S b.1 bs∧bs.length≤b.2∧b.2≤maxLen
theorem keeps_bys (bs:List Nat):Keeps3 (RB bs):=fun w w' S S' b h ha hs=>⟨IntsIn.keep h.1 ha.alike hs,h.2⟩
section
variable {w0:World} {D:List Fact} {S:Nat→Prop} {W:World} {u:Dv} {t:DiskD} {r:DiskD × Int}
theorem g_right {b:Bool} (e:rightB t=b) (hin:∀ w,Below w0.heap.size w0 w→All D w→InD w (Lt w.heap.size) u t) (hs:shortB t.files=true):Gives Try.prog w0 D 40 #[.agg (dc u t)] (.bool b):=fun w hw ha=>by
 subst e;exact d_right (fun _ h=>h) (hin w hw ha) hs
theorem g_append {A:Option Addr} {c:Nat} {bs:List Nat} {nm:ByteArray} (e:appendD t nm bs=r) (hF:Fixed w0 D S W) (hin:∀ w,Below w0.heap.size w0 w→All D w→InD w S u t) (hs:shortB t.files=true) (hn:nm.size≤100) (hb:∀ w,Below w0.heap.size w0 w→All D w→BysIn w S A bs∧bs.length≤c∧c≤maxLen) (hl:bs.length≤70000) :
  GivesM Try.prog w0 D 32 #[.agg (dc u t),.string nm,.slice A bs.length c] (Dat (fun w S v=>InD w S v r.1) S W) (fun x=>.tuple #[.agg (dc x.1.2.2 r.1),.int .i64 r.2]) (fun x=>[poolF x.1.1 x.1.2.1]):=by
 subst e
 exact gives_dat (R:=fun w S v=>InD w S v (appendD t nm bs).1) (r:=fun b=>.tuple #[.agg (dc b (appendD t nm bs).1),.int .i64 (appendD t nm bs).2]) hF (fun w hw ha=>d_append (hF w hw ha).2 (hin w hw ha) hs hn (hb w hw ha).1 (hb w hw ha).2.1 (hb w hw ha).2.2 hl)
theorem g_sync {nm:ByteArray} (e:syncD t nm=r) (hF:Fixed w0 D S W) (hin:∀ w,Below w0.heap.size w0 w→All D w→InD w S u t) (hs:shortB t.files=true) (hn:nm.size≤100) :
  GivesM Try.prog w0 D 34 #[.agg (dc u t),.string nm] (Dat (fun w S v=>InD w S v r.1) S W) (fun x=>.tuple #[.agg (dc x.1.2.2 r.1),.int .i64 r.2]) (fun x=>[poolF x.1.1 x.1.2.1]):=by
 subst e
 exact gives_dat (R:=fun w S v=>InD w S v (syncD t nm).1) (r:=fun b=>.tuple #[.agg (dc b (syncD t nm).1),.int .i64 (syncD t nm).2]) hF (fun w hw ha=>d_sync (hF w hw ha).2 (hin w hw ha) hs hn)
theorem g_cut {nm:ByteArray} {k:Int} (e:cutD t nm k=r) (hF:Fixed w0 D S W) (hin:∀ w,Below w0.heap.size w0 w→All D w→InD w S u t) (hs:shortB t.files=true) (hn:nm.size≤100) (hk:inI k) :
  GivesM Try.prog w0 D 49 #[.agg (dc u t),.string nm,.int .i64 k] (Dat (fun w S v=>InD w S v r.1) S W) (fun x=>.tuple #[.agg (dc x.1.2.2 r.1),.int .i64 r.2]) (fun x=>[poolF x.1.1 x.1.2.1]):=by
 subst e
 exact gives_dat (R:=fun w S v=>InD w S v (cutD t nm k).1) (r:=fun b=>.tuple #[.agg (dc b (cutD t nm k).1),.int .i64 (cutD t nm k).2]) hF (fun w hw ha=>d_cut (hF w hw ha).2 (hin w hw ha) hs hn hk)
theorem g_read {nm:ByteArray} {q:List Nat × Int} (e:readD t nm=q) (hF:Fixed w0 D S W) (hin:∀ w,Below w0.heap.size w0 w→All D w→InD w S u t) (hs:shortB t.files=true) (hn:nm.size≤100) :
  GivesM Try.prog w0 D 22 #[.agg (dc u t),.string nm] (Dat (RB q.1) S W) (fun x=>.tuple #[.slice x.1.2.2.1 q.1.length x.1.2.2.2,.int .i64 q.2]) (fun x=>[poolF x.1.1 x.1.2.1]):=by
 subst e
 exact gives_dat (R:=RB (readD t nm).1) (r:=fun b=>.tuple #[.slice b.1 (readD t nm).1.length b.2,.int .i64 (readD t nm).2]) hF (fun w hw ha=>(d_read (hF w hw ha).2 (hin w hw ha) hs hn).mono (by
  rintro e w' ⟨b,rfl,h1,h2,h3,h4⟩
  exact ⟨b,rfl,h1,h2,h3,h4⟩))
theorem g_back {A:Option Addr} {c:Nat} {fu:Int} {ks:List Int} (e:backD t ks fu=r) (hF:Fixed w0 D S W) (hin:∀ w,Below w0.heap.size w0 w→All D w→InD w S u t) (hs:shortB t.files=true) (hb:∀ w,Below w0.heap.size w0 w→All D w→IntsIn .i64 w S A ks) (hc:ks.length≤c) (hm:c≤maxLen) (hl:ks.length≤80) (hf:inI fu) :
  GivesM Try.prog w0 D 21 #[.agg (dc u t),.slice A ks.length c,.int .i64 fu] (Dat (fun w S v=>InD w S v r.1) S W) (fun x=>.tuple #[.agg (dc x.1.2.2 r.1),.int .i64 r.2]) (fun x=>[poolF x.1.1 x.1.2.1]):=by
 subst e
 exact gives_dat (R:=fun w S v=>InD w S v (backD t ks fu).1) (r:=fun b=>.tuple #[.agg (dc b (backD t ks fu).1),.int .i64 (backD t ks fu).2]) hF (fun w hw ha=>d_back (hF w hw ha).2 (hin w hw ha) hs (hb w hw ha) hc hm hl hf)
end
end Go.Proofs.Ytlipgnenbdchmaa.dsk
