/-
  DskV
-/
import Derived.Test.YtlipgnenbdchmaaMsg10
import Derived.Test.YtlipgnenbdchmaaMsg36
import Derived.Test.YtlipgnenbdchmaaMsg14
set_option linter.unusedVariables false
set_option linter.unusedSimpArgs false
namespace Go.Proofs.Ytlipgnenbdchmaa.wal
set_option maxRecDepth 20000
open Go.RowKit Go.Proofs.Ytlipgnenbdchmaa Go.Proofs.Ytlipgnenbdchmaa.disk
structure RawF where
 f:FileD
 A:Option Addr
 c:Nat
abbrev fz:FileD:=⟨ByteArray.empty,[],0⟩
abbrev rz:RawF:=⟨fz,none,0⟩
def rfc (x:RawF):Array Value:=#[.string x.f.name,.slice x.A x.f.data.length x.c,.int .i64 x.f.sure]
def rdRaw:Rd RawF:=fun w S cs x=>cs=(rfc x).toList∧x.f.name.size≤maxLen∧BysIn w S x.A x.f.data∧x.f.data.length≤x.c∧x.c≤maxLen∧(Lit.int .i64 x.f.sure).wf=true
theorem keeps_raw:Keeps rdRaw:=fun _ _ _ _ _ _ ⟨e,h1,h2,r⟩ hc hS=>⟨e,h1,IntsIn.keep h2 hc hS,r⟩
theorem leaf_raw:Leaf rdRaw:=fun _ _ _ _ ⟨h,_⟩ c hc=>by
 rw [h] at hc
 simp [rfc] at hc
 rcases hc with rfl | rfl | rfl<;>rfl
theorem raw_cells (w:World) (S:Nat→Prop) (cs:List Value) (x:RawF) (h:rdRaw w S cs x):cs=(rfc x).toList:=h.1
theorem info_file:(Try.prog.info? 51).map (fun i=>(i.zero,i.size,i.bytes))=some (some (.agg #[.string ByteArray.empty,.slice none 0 0,.int .i64 0]),3,48):=by kernel_rfl
theorem raw_file {w:World} {S:Nat→Prop} {cs:List Value} {x:RawF} (h:rdRaw w S cs x):rdFile w S cs x.f:=⟨x.A,_,x.c,h.1,h.2.1,h.2.2.1,rfl,h.2.2.2.1,h.2.2.2.2.1,h.2.2.2.2.2⟩
theorem file_raw {w:World} {S:Nat→Prop} {cs:List Value} {f:FileD} (h:rdFile w S cs f):∃ x:RawF,x.f=f∧rdRaw w S cs x:=by
 obtain ⟨A,n,c,e,h1,h2,rfl,h3⟩:=h
 exact ⟨⟨f,A,c⟩,rfl,e,h1,h2,h3⟩
theorem raws_files {w:World} {S:Nat→Prop} {A:Option Addr} {rs:List RawF} (h:Elems rdRaw 3 w S A rs):FilesIn w S A (rs.map (·.f)):=fun h0=>by
 obtain ⟨b,off,e,hb,hc⟩:=h (by simpa using h0)
 refine ⟨b,off,e,hb,fun j x hj=>?_⟩
 rw [List.getElem?_map,Option.map_eq_some_iff] at hj
 obtain ⟨y,hy,rfl⟩:=hj
 obtain ⟨cs,h1,h2,h3⟩:=hc j y hy
 exact ⟨cs,h1,h2,raw_file h3⟩
theorem files_raws {w:World} {S:Nat→Prop} {A:Option Addr} {fs:List FileD} (h:FilesIn w S A fs):∃ rs:List RawF,rs.map (·.f)=fs∧Elems rdRaw 3 w S A rs:=by
 rcases Nat.eq_zero_or_pos fs.length with h0 | h0
 ·obtain rfl:=List.eq_nil_of_length_eq_zero h0
  exact ⟨[],rfl,fun h=>absurd h (by simp)⟩
 ·obtain ⟨b,off,e,hb,hc⟩:=h h0
  obtain ⟨rs,hl,hr⟩:=gather fs.length (fun j (x:RawF)=>fs[j]?=some x.f∧∃ cs:List Value,cs.length=3∧(∀ i c,cs[i]?=some c→w.cell? ⟨b,off+j * 3+i,none⟩=some c)∧rdRaw w S cs x) (fun j hj=>by
   obtain ⟨cs,h1,h2,h3⟩:=hc j fs[j] (List.getElem?_eq_getElem hj)
   obtain ⟨x,hx,h4⟩:=file_raw h3
   exact ⟨x,by rw [hx,List.getElem?_eq_getElem hj],cs,h1,h2,h4⟩)
  refine ⟨rs,?_,fun _=>⟨b,off,e,hb,fun j x hx=>(hr j x hx).2⟩⟩
  apply List.ext_getElem?
  intro j
  rw [List.getElem?_map]
  rcases Nat.lt_or_ge j rs.length with hj | hj
  ·rw [List.getElem?_eq_getElem hj]
   exact (hr j _ (List.getElem?_eq_getElem hj)).1.symm
  ·rw [List.getElem?_eq_none hj,List.getElem?_eq_none (by omega)];rfl
structure Dv where
 A:Option Addr
 c:Nat
 rs:List RawF
def dc (v:Dv) (s:DiskD):Array Value:=#[.slice v.A s.files.length v.c,.int .i64 s.room,.int .i64 s.fuse,.bool s.down]
structure InD (w:World) (S:Nat→Prop) (v:Dv) (s:DiskD):Prop where
 f:Elems rdRaw 3 w S v.A v.rs
 m:v.rs.map (·.f)=s.files
 l:s.files.length≤v.c
 c:v.c≤maxLen
 r:inI s.room
 u:inI s.fuse
section
variable {w w' : World} {S S' : Nat→Prop} {v:Dv} {s:DiskD}
theorem InD.len (h:InD w S v s):v.rs.length=s.files.length:=by rw [← h.m,List.length_map]
theorem InD.files (h:InD w S v s):FilesIn w S v.A s.files:=by rw [← h.m];exact raws_files h.f
theorem InD.keep (h:InD w S v s) (ha:Alike S w w') (hS:∀ k,S k→S' k):InD w' S' v s:=⟨h.f.keep keeps_raw ha hS,h.m,h.l,h.c,h.r,h.u⟩
theorem InD.more (h:InD w S v s) (hS:∀ k,S k→S' k):InD w S' v s:=h.keep (alike_refl _ _) hS
theorem InD.below {B:Nat} (h:InD w (Lt B) v s) (hb:Below B w w'):InD w' (Lt B) v s:=h.keep (below_alike hb) (fun _ h=>h)
theorem InD.all (h:InD w S v s) (hS:∀ k,S k→k < w.heap.size):InD w (Lt w.heap.size) v s:=h.more hS
theorem InD.at_ (h:InD w S v s) (j:Nat):(v.rs.getD j rz).f=s.files.getD j fz:=by
 rw [← h.m];simp only [List.getD_eq_getElem?_getD,List.getElem?_map]
 cases v.rs[j]?<;>rfl
end
theorem keeps_d (s:DiskD):Keeps3 (fun w S v=>InD w S v s):=fun w w' S S' b h ha hs=>InD.keep h ha.alike hs
theorem disk_in {w:World} {S:Nat→Prop} {cs:List Value} {d:DiskD} (h:rdDisk w S cs d):∃ v,cs=(dc v d).toList∧InD w S v d:=by
 obtain ⟨A,n,c,e,h1,rfl,h3,h4,h5,h6⟩:=h
 obtain ⟨rs,hm,hr⟩:=files_raws h1
 exact ⟨⟨A,c,rs⟩,e,hr,hm,h3,h4,inI_of_wf h5,inI_of_wf h6⟩
theorem op_in {d:DiskD} {a b:ByteArray} {pre:Int} {fs:List FileD} {app:Bool} (hr:inI d.room) (hu:inI d.fuse):inI (opD d a b pre fs app).1.room∧inI (opD d a b pre fs app).1.fuse:=by
 rcases op_cases d a b pre fs app with ⟨_,e⟩ | ⟨_,_,e⟩ | ⟨_,_,_,e⟩ | ⟨_,_,h3,e⟩<;>rw [e]
 ·exact ⟨hr,hu⟩
 ·exact ⟨hr,hu⟩
 ·exact ⟨hr,by unfold inI;simp⟩
 ·refine ⟨hr,?_⟩
  show inI (if 0 < d.fuse then d.fuse - 1 else d.fuse)
  unfold inI at hu ⊢
  split<;>omega
def RetD (S:Nat→Prop) (w:World) (r:DiskD × Int) (e:Ending) (w' : World):Prop :=
 ∃ b:Dv,e = .returned (.tuple #[.agg (dc b r.1),.int .i64 r.2])∧Below w.heap.size w w'∧InD w' (fun k=>S k∨(w.heap.size≤k∧k < w'.heap.size)) b r.1
theorem ret_d {S:Nat→Prop} {w w' : World} {r:DiskD × Int} {e:Ending} (hi:inI r.1.room∧inI r.1.fuse) (h:RetOp S w r e w'):RetD S w r e w':=by
 obtain ⟨A,n,c,rfl,h1,h2,h3,h4,h5⟩:=h
 obtain ⟨rs,hm,hr⟩:=files_raws h1
 have:=h2.out
 subst this
 exact ⟨⟨A,c,rs⟩,rfl,h5,hr,hm,h3,h4,hi.1,hi.2⟩
section
variable {S:Nat→Prop} {w:World} {v:Dv} {s:DiskD}
theorem d_right (hS:∀ k,S k→k < w.heap.size) (h:InD w S v s) (hs:shortB s.files=true):Calls Try.prog 40 #[.agg (dc v s)] w fun e w'=>e = .returned (.bool (rightB s))∧Below w.heap.size w w' :=
 dright v.A s.files.length v.c s.room s.fuse s.down s.files _ S w hS h.files rfl h.l h.c h.r h.u hs rfl
theorem d_sync (hS:∀ k,S k→k < w.heap.size) (h:InD w S v s) (hs:shortB s.files=true) {nm:ByteArray} (hn:nm.size≤100):Calls Try.prog 34 #[.agg (dc v s),.string nm] w (RetD S w (syncD s nm)) :=
 (dsync v.A s.files.length v.c s.room s.fuse s.down nm s.files _ S w hS h.files rfl h.l h.c h.r h.u hs hn rfl).mono fun e w'=>ret_d (op_in h.r h.u)
theorem d_cut (hS:∀ k,S k→k < w.heap.size) (h:InD w S v s) (hs:shortB s.files=true) {nm:ByteArray} (hn:nm.size≤100) {k:Int} (hk:inI k):Calls Try.prog 49 #[.agg (dc v s),.string nm,.int .i64 k] w (RetD S w (cutD s nm k)) :=
 (dcut v.A s.files.length v.c s.room s.fuse s.down nm k s.files _ S w hS h.files rfl h.l h.c h.r h.u hs hn hk rfl).mono fun e w'=>ret_d (op_in h.r h.u)
theorem d_append (hS:∀ k,S k→k < w.heap.size) (h:InD w S v s) (hs:shortB s.files=true) {nm:ByteArray} (hn:nm.size≤100) {Ab:Option Addr} {cb:Nat} {bs:List Nat} (hb:BysIn w S Ab bs) (hc:bs.length≤cb) (hm:cb≤maxLen) (hl:bs.length≤70000):Calls Try.prog 32 #[.agg (dc v s),.string nm,.slice Ab bs.length cb] w (RetD S w (appendD s nm bs)) :=
 (dappend v.A s.files.length v.c s.room s.fuse s.down nm Ab bs.length cb bs s.files _ S w hS h.files rfl h.l h.c h.r h.u hs hn hb rfl hc hm hl rfl).mono fun e w'=>ret_d (op_in h.r h.u)
end
def RetB (S:Nat→Prop) (w:World) (r:List Nat × Int) (e:Ending) (w' : World):Prop :=
 ∃ b:Option Addr × Nat,e = .returned (.tuple #[.slice b.1 r.1.length b.2,.int .i64 r.2])∧Below w.heap.size w w'∧BysIn w' (fun k=>S k∨(w.heap.size≤k∧k < w'.heap.size)) b.1 r.1∧r.1.length≤b.2∧b.2≤maxLen
theorem ret_b {S:Nat→Prop} {w w' : World} {r:List Nat × Int} {e:Ending} (h:RetBytes S w r e w'):RetB S w r e w':=by
 obtain ⟨A,n,c,rfl,h1,h2,h3,h4,h5⟩:=h
 have:=h2.out
 subst this
 exact ⟨(A,c),rfl,h5,h1,h3,h4⟩
theorem d_read {S:Nat→Prop} {w:World} {v:Dv} {s:DiskD} (hS:∀ k,S k→k < w.heap.size) (h:InD w S v s) (hs:shortB s.files=true) {nm:ByteArray} (hn:nm.size≤100):Calls Try.prog 22 #[.agg (dc v s),.string nm] w (RetB S w (readD s nm)) :=
 (dread v.A s.files.length v.c s.room s.fuse s.down nm s.files _ S w hS h.files rfl h.l h.c h.r h.u hs hn rfl).mono fun e w'=>ret_b
end Go.Proofs.Ytlipgnenbdchmaa.wal
