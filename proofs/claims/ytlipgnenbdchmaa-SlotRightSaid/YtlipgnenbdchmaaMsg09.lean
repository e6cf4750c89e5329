/-
  Files, Files2, Disk, Out
-/
import Derived.Test.YtlipgnenbdchmaaMsg05
import Derived.Test.YtlipgnenbdchmaaMsg04
set_option linter.unusedVariables false
set_option linter.unusedSimpArgs false
section
namespace Go.Proofs.Ytlipgnenbdchmaa
set_option maxRecDepth 20000
open Go.RowKit
theorem wpList_push {P:Program} {W:World} {ops:Array Oper} {rest:List Oper} {o:Oper} {a:Act} {Q:Exit→Act→World→Prop} (hgd:o.guard=none) (s x:Operand) (t:TypeId)
  (ho:o.op = .call { callee:=.builtin .append,args:=#[s,x],argTypes:=#[t,t] })
  {α:Type} {R:Rd α} (hR:Keeps R) (hLf:Leaf R) {size:Nat} (hsz0:0 < size) (base:Nat) (S:Nat→Prop) (e:TypeId) (z:Value) (bytes:Nat) (ht:P.underlying t=some (.slice e))
  (hinfo:(P.info? e).map (fun i=>(i.zero,i.size,i.bytes))=some (some z,size,bytes)) (hzs:z.cells.size=size) {cs:Array Value} {T:TypeId}
  {A:Option Addr} {m c:Nat} {acc:List α} {f:α} (hs:a.eval s = .slice A m c) (hx:a.eval x = .slice (some ⟨W.heap.size,0,none⟩) 1 1)
  (hown:OwnElems R size W base e S A m c acc) (hf:R W S cs.toList f) (hcs:cs.toList.length=size) (hL:∀ b,S b→b < base) (hb:base≤W.heap.size) (h63:m+1≤maxLen) (hbytes:(m+1) * bytes≤140737488355328)
  (h:∀ A' c' w',OwnElems R size w' base e S A' (m+1) c' (acc++[f])→Below base W w'→wpList P ops Q rest (a.put o.dst (.slice A' (m+1) c')) w') :
  wpList P ops Q (o :: rest) a (W.alloc (.cells cs T)):=by
 have hal:Alike S W (W.alloc (.cells cs T)):=fun b o' hb'=>World.cell?_alloc_lt W _ _ (Nat.lt_of_lt_of_le (hL b hb') hb)
 refine wpList_append_elems hgd s x t ho hR hLf hsz0 base e z bytes ht hinfo hzs hs (hown.alloc hR (fun b hb'=>Nat.lt_of_lt_of_le (hL b hb') hb) _) hx (each_one hcs (hR _ _ _ _ _ _ hf hal (fun _ h=>h))) (cells_new rfl 1) rfl (fun _ h=>h) ?_ h63 hbytes (by simp;omega) ?_
 ·intro b hb'
  have h1:=hL b hb'
  refine ⟨by simp;omega,fun e=>?_⟩
  have:=(hown.block b e.symm).1
  omega
 ·intro A' c' w' h1 h2 _
  exact h A' c' w' h1 (((Below.refl base W).alloc hb _).grown h2 (by simp;omega) (fun g hg=>(hown.block g hg).1))
end Go.Proofs.Ytlipgnenbdchmaa
end
section
namespace Go.Proofs.Ytlipgnenbdchmaa
set_option maxRecDepth 20000
open Go.RowKit
end Go.Proofs.Ytlipgnenbdchmaa
end
section
namespace Go.Proofs.Ytlipgnenbdchmaa
set_option maxRecDepth 20000
open Go.RowKit
structure FileD where
 name:ByteArray
 data:List Nat
 sure:Int
structure DiskD where
 files:List FileD
 room:Int
 fuse:Int
 down:Bool
def rdFile:Rd FileD:=fun w S cs f => ∃ A n c,cs=[.string f.name,.slice A n c,.int .i64 f.sure]∧f.name.size≤maxLen∧BysIn w S A f.data∧f.data.length=n∧n≤c∧c≤maxLen∧(Lit.int .i64 f.sure).wf=true
abbrev FilesIn (w:World) (S:Nat→Prop) (A:Option Addr) (fs:List FileD):Prop:=Elems rdFile 3 w S A fs
abbrev Files (w:World) (B:Nat) (A:Option Addr) (fs:List FileD):Prop:=Elems rdFile 3 w (Lt B) A fs
def rdDisk:Rd DiskD:=fun w S cs d => ∃ A n c,cs=[.slice A n c,.int .i64 d.room,.int .i64 d.fuse,.bool d.down]∧FilesIn w S A d.files∧d.files.length=n∧n≤c∧c≤maxLen∧(Lit.int .i64 d.room).wf=true∧(Lit.int .i64 d.fuse).wf=true
theorem keeps_file:Keeps rdFile:=fun _ _ _ _ _ _ ⟨A,n,c,e,h1,h2,r⟩ hc hS=>⟨A,n,c,e,h1,IntsIn.keep h2 hc hS,r⟩
theorem leaf_file:Leaf rdFile:=fun _ _ _ _ ⟨_,_,_,h,_⟩ c hc=>by
 rw [h] at hc
 simp at hc
 rcases hc with rfl | rfl | rfl<;>rfl
theorem Files.below {w w' : World} {B:Nat} {A:Option Addr} {fs:List FileD} (h:Files w B A fs) (hb:Below B w w'):Files w' B A fs:=Elems.keep keeps_file h (below_alike hb) (fun _ h=>h)
theorem Files.more {w:World} {B B' : Nat} {A:Option Addr} {fs:List FileD} (h:Files w B A fs) (hb:B≤B'):Files w B' A fs:=Elems.keep keeps_file h (alike_refl _ _) (fun _ h=>Nat.lt_of_lt_of_le h hb)
theorem Files.nil (w:World) (S:Nat→Prop) (A:Option Addr):FilesIn w S A []:=fun h=>absurd h (by simp)
theorem Files.at_ {w:World} {B:Nat} {A:Option Addr} {fs:List FileD} (h:Files w B A fs) {j:Nat} (hj:j < fs.length) :
  ∃ b off f A' n c,A=some ⟨b,off,none⟩∧b < B∧Hid (fs[j]?=some f)∧w.cell? ⟨b,off+j * 3,none⟩=some (.string f.name)∧w.cell? ⟨b,off+j * 3+1,none⟩=some (.slice A' n c)∧w.cell? ⟨b,off+j * 3+2,none⟩=some (.int .i64 f.sure) ∧
   f.name.size≤maxLen∧Bys w B A' f.data∧Hid (f.data.length=n)∧n≤c∧c≤maxLen∧inI f.sure:=by
 obtain ⟨b,off,e,hb,hc⟩:=h (by omega)
 obtain ⟨cs,hl,hcs,A',n,c,rfl,h1,h2,h3,h4,h5,h6⟩:=hc j fs[j] (List.getElem?_eq_getElem hj)
 exact ⟨b,off,fs[j],A',n,c,e,hb,Lib.hid (List.getElem?_eq_getElem hj),hcs 0 _ rfl,hcs 1 _ rfl,hcs 2 _ rfl,h1,ints_in.2 h2,Lib.hid h3,h4,h5,inI_of_wf h6⟩
namespace disk
def signOk (c:UInt8):Bool := !((decide ((c.toNat:Int) < 97) || decide (122 < (c.toNat:Int))) && (decide ((c.toNat:Int) < 48) || decide (57 < (c.toNat:Int))) && ((c.toNat:Int) != 46))
def named (s:ByteArray):Bool:=s.data.toList.all signOk && decide (0 < s.size) && decide (s.size≤16)
def sameName (a b:ByteArray):Bool:=a.toList == b.toList
def upTo (a b:ByteArray):Bool:=Op.bytesLess a.toList b.toList || a.toList == b.toList
def used (fs:List FileD):Nat:=(fs.map fun f=>f.data.length).sum
def findFrom (nm:ByteArray):List FileD→Nat→Option Nat
 | [],_=>none
 |f :: r,k=>if sameName f.name nm then some k else findFrom nm r (k+1)
def findI (fs:List FileD) (nm:ByteArray):Int:=match findFrom nm fs 0 with
 |some k=>(k:Int)
 |none => -1
def fileOk (f:FileD):Bool:=named f.name && decide (0≤f.sure) && decide (f.sure≤(f.data.length:Int)) && decide (f.data.length≤65536)
def goodFrom:Option ByteArray→List FileD→Bool
 | _,[]=>true
 |p,f :: r=>fileOk f && (match p with | none=>true | some q => !upTo f.name q) && goodFrom (some f.name) r
def prevName (fs:List FileD):Nat→Option ByteArray
 | 0=>none
 |k+1=>(fs[k]?).map (·.name)
def rightB (d:DiskD):Bool:=decide (0≤d.room) && decide (d.room≤65536) && decide (-1≤d.fuse) && decide (d.files.length≤64) && goodFrom none d.files && decide ((used d.files:Int)≤d.room)
def sans (nm:ByteArray) (fs:List FileD):List FileD:=fs.filter fun f => !sameName f.name nm
def shortFile (f:FileD):Bool:=decide (f.data.length≤70000) && decide (f.name.size≤100)
def shortB (fs:List FileD):Bool:=decide (fs.length≤70) && fs.all shortFile && decide (used fs≤70000)
def firstE (d:DiskD) (a b:ByteArray):Int:=if rightB d then (if d.down then 9 else if named a && named b then 0 else 1) else 1
def atLeast (a b:ByteArray):Bool := !Op.bytesLess a.toList b.toList
def putFrom (f:FileD):List FileD→Bool→List FileD
 | [],put=>if put then [] else [f]
 |g :: r,put=>(if !put && atLeast g.name f.name then [f] else [])++((if sameName g.name f.name then [] else [g])++putFrom f r (put || atLeast g.name f.name))
def withF (f:FileD) (fs:List FileD):List FileD:=putFrom f fs false
end disk
end Go.Proofs.Ytlipgnenbdchmaa
end
section
namespace Go.Proofs.Ytlipgnenbdchmaa
set_option maxRecDepth 20000
open Go.RowKit
def Out (S:Nat→Prop) (w w' : World):Nat→Prop:=fun b=>S b∨(w.heap.size≤b∧b < w'.heap.size)
theorem Out.lt {S:Nat→Prop} {w w' : World} (hS:∀ b,S b→b < w.heap.size) (hs:w.heap.size≤w'.heap.size):∀ b,Out S w w' b→b < w'.heap.size:=fun b h=>by
 rcases h with h | h
 ·have:=hS b h;omega
 ·exact h.2
theorem Out.mk {S:Nat→Prop} {w w' : World} : ∀ b,S b→Out S w w' b:=fun _ h=>.inl h
theorem Out.widen {S:Nat→Prop} {w w1 w2 w3:World} (h1:w.heap.size≤w1.heap.size) (h2:w2.heap.size≤w3.heap.size):∀ b,Out S w1 w2 b→Out S w w3 b:=fun b h=>by
 rcases h with h | h
 ·exact .inl h
 ·exact .inr ⟨by omega,by omega⟩
theorem below_alikeS {S:Nat→Prop} {B:Nat} {w w' : World} (h:Below B w w') (hS:∀ b,S b→b < B):Alike S w w':=fun b o hb=>h.cell (p:=⟨b,o,none⟩) (hS b hb)
theorem BysIn.below {S:Nat→Prop} {B:Nat} {w w' : World} {A:Option Addr} {bs:List Nat} (h:BysIn w S A bs) (hS:∀ b,S b→b < B) (hb:Below B w w'):BysIn w' S A bs:=IntsIn.keep h (below_alikeS hb hS) (fun _ h=>h)
theorem FilesIn.below {S:Nat→Prop} {B:Nat} {w w' : World} {A:Option Addr} {fs:List FileD} (h:FilesIn w S A fs) (hS:∀ b,S b→b < B) (hb:Below B w w'):FilesIn w' S A fs:=Elems.keep keeps_file h (below_alikeS hb hS) (fun _ h=>h)
theorem FilesIn.more {S S' : Nat→Prop} {w:World} {A:Option Addr} {fs:List FileD} (h:FilesIn w S A fs) (hS:∀ b,S b→S' b):FilesIn w S' A fs:=Elems.keep keeps_file h (alike_refl _ _) hS
theorem FilesIn.files {S:Nat→Prop} {B:Nat} {w w' : World} {A:Option Addr} {fs:List FileD} (h:FilesIn w S A fs) (hS:∀ b,S b→b < B) (hb:Below B w w'):Files w' B A fs:=(h.below hS hb).more hS
theorem FilesIn.at_ {w:World} {S:Nat→Prop} {A:Option Addr} {fs:List FileD} (h:FilesIn w S A fs) {j:Nat} (hj:j < fs.length) :
  ∃ b off f A' n c,A=some ⟨b,off,none⟩∧S b∧Hid (fs[j]?=some f)∧w.cell? ⟨b,off+j * 3,none⟩=some (.string f.name)∧w.cell? ⟨b,off+j * 3+1,none⟩=some (.slice A' n c)∧w.cell? ⟨b,off+j * 3+2,none⟩=some (.int .i64 f.sure) ∧
   f.name.size≤maxLen∧BysIn w S A' f.data∧Hid (f.data.length=n)∧n≤c∧c≤maxLen∧inI f.sure:=by
 obtain ⟨b,off,e,hb,hc⟩:=h (by omega)
 obtain ⟨cs,hl,hcs,A',n,c,rfl,h1,h2,h3,h4,h5,h6⟩:=hc j fs[j] (List.getElem?_eq_getElem hj)
 exact ⟨b,off,fs[j],A',n,c,e,hb,Lib.hid (List.getElem?_eq_getElem hj),hcs 0 _ rfl,hcs 1 _ rfl,hcs 2 _ rfl,h1,h2,Lib.hid h3,h4,h5,inI_of_wf h6⟩
theorem heap_set4 {w:World} {g b:Nat} (v0 v1 v2 v3:Value) (h:b≠g):((((w.setCell ⟨g,0,none⟩ v0).setCell ⟨g,1,none⟩ v1).setCell ⟨g,2,none⟩ v2).setCell ⟨g,3,none⟩ v3).heap[b]?=w.heap[b]?:=by
 rw [Below.heap_setCell _ _ _ _ h,Below.heap_setCell _ _ _ _ h,Below.heap_setCell _ _ _ _ h,Below.heap_setCell _ _ _ _ h]
theorem heap_set4_self {w:World} {g:Nat} {a0 a1 a2 a3:Value} {T:TypeId} (v0 v1 v2 v3:Value) (h:w.heap[g]?=some (.cells #[a0,a1,a2,a3] T (0,0))) :
  ((((w.setCell ⟨g,0,none⟩ v0).setCell ⟨g,1,none⟩ v1).setCell ⟨g,2,none⟩ v2).setCell ⟨g,3,none⟩ v3).heap[g]?=some (.cells #[v0,v1,v2,v3] T (0,0)):=by
 have h0:=heap_setCell_same w g 0 _ T v0 h
 have h1:=heap_setCell_same _ g 1 _ T v1 h0
 have h2:=heap_setCell_same _ g 2 _ T v2 h1
 exact heap_setCell_same _ g 3 _ T v3 h2
theorem heap_set3_self {w:World} {g:Nat} {a0 a1 a2:Value} {T:TypeId} (v0 v1 v2:Value) (h:w.heap[g]?=some (.cells #[a0,a1,a2] T (0,0))) :
  (((w.setCell ⟨g,0,none⟩ v0).setCell ⟨g,1,none⟩ v1).setCell ⟨g,2,none⟩ v2).heap[g]?=some (.cells #[v0,v1,v2] T (0,0)):=by
 have h0:=heap_setCell_same w g 0 _ T v0 h
 have h1:=heap_setCell_same _ g 1 _ T v1 h0
 exact heap_setCell_same _ g 2 _ T v2 h1
theorem heap_set3 {w:World} {g b:Nat} (v0 v1 v2:Value) (h:b≠g):(((w.setCell ⟨g,0,none⟩ v0).setCell ⟨g,1,none⟩ v1).setCell ⟨g,2,none⟩ v2).heap[b]?=w.heap[b]?:=by
 rw [Below.heap_setCell _ _ _ _ h,Below.heap_setCell _ _ _ _ h,Below.heap_setCell _ _ _ _ h]
theorem below_set4 {B:Nat} {w0 w:World} {g:Nat} (hb:Below B w0 w) (h:B≤g) (v0 v1 v2 v3:Value):Below B w0 ((((w.setCell ⟨g,0,none⟩ v0).setCell ⟨g,1,none⟩ v1).setCell ⟨g,2,none⟩ v2).setCell ⟨g,3,none⟩ v3) :=
 (((hb.setCell (p:=⟨g,0,none⟩) h _).setCell (p:=⟨g,1,none⟩) h _).setCell (p:=⟨g,2,none⟩) h _).setCell (p:=⟨g,3,none⟩) h _
theorem below_set3 {B:Nat} {w0 w:World} {g:Nat} (hb:Below B w0 w) (h:B≤g) (v0 v1 v2:Value):Below B w0 (((w.setCell ⟨g,0,none⟩ v0).setCell ⟨g,1,none⟩ v1).setCell ⟨g,2,none⟩ v2) :=
 ((hb.setCell (p:=⟨g,0,none⟩) h _).setCell (p:=⟨g,1,none⟩) h _).setCell (p:=⟨g,2,none⟩) h _
theorem size_set4 (w:World) (g:Nat) (v0 v1 v2 v3:Value):((((w.setCell ⟨g,0,none⟩ v0).setCell ⟨g,1,none⟩ v1).setCell ⟨g,2,none⟩ v2).setCell ⟨g,3,none⟩ v3).heap.size=w.heap.size:=by simp [World.setCell]
theorem alike_set4 {S:Nat→Prop} {w:World} {g:Nat} (h:¬ S g) (v0 v1 v2 v3:Value):Alike S w ((((w.setCell ⟨g,0,none⟩ v0).setCell ⟨g,1,none⟩ v1).setCell ⟨g,2,none⟩ v2).setCell ⟨g,3,none⟩ v3):=fun b o hb =>
 World.cell?_of_block (heap_set4 v0 v1 v2 v3 (fun e=>h (e▸hb)))
end Go.Proofs.Ytlipgnenbdchmaa
end
