/-
  Files, Files2, Disk, Out, Off
-/
import Derived.Test.YtcpahggkioagkaaMvf05
import Derived.Test.YtcpahggkioagkaaMvf04
set_option linter.unusedVariables false
set_option linter.unusedSimpArgs false
section
namespace Go.Proofs.Ytcpahggkioagkaa
set_option maxRecDepth 20000
open Go.RowKit
end Go.Proofs.Ytcpahggkioagkaa
end
section
namespace Go.Proofs.Ytcpahggkioagkaa
set_option maxRecDepth 20000
open Go.RowKit
end Go.Proofs.Ytcpahggkioagkaa
end
section
namespace Go.Proofs.Ytcpahggkioagkaa
set_option maxRecDepth 20000
open Go.RowKit
structure FileD where
 name:ByteArray
 data:List Nat
 sure:Int
structure DiskD where
 files:List FileD
 room:Int
 fuse:Int
 down:Bool
def rdFile:Rd FileD:=fun w S cs f => ∃ A n c,cs=[.string f.name,.slice A n c,.int .i64 f.sure]∧f.name.size≤maxLen∧BysIn w S A f.data∧f.data.length=n∧n≤c∧c≤maxLen∧(Lit.int .i64 f.sure).wf=true
abbrev FilesIn (w:World) (S:Nat→Prop) (A:Option Addr) (fs:List FileD):Prop:=Elems rdFile 3 w S A fs
abbrev Files (w:World) (B:Nat) (A:Option Addr) (fs:List FileD):Prop:=Elems rdFile 3 w (Lt B) A fs
theorem keeps_file:Keeps rdFile:=fun _ _ _ _ _ _ ⟨A,n,c,e,h1,h2,r⟩ hc hS=>⟨A,n,c,e,h1,IntsIn.keep h2 hc hS,r⟩
theorem Files.below {w w' : World} {B:Nat} {A:Option Addr} {fs:List FileD} (h:Files w B A fs) (hb:Below B w w'):Files w' B A fs:=Elems.keep keeps_file h (below_alike hb) (fun _ h=>h)
theorem Files.more {w:World} {B B' : Nat} {A:Option Addr} {fs:List FileD} (h:Files w B A fs) (hb:B≤B'):Files w B' A fs:=Elems.keep keeps_file h (alike_refl _ _) (fun _ h=>Nat.lt_of_lt_of_le h hb)
theorem Files.nil (w:World) (S:Nat→Prop) (A:Option Addr):FilesIn w S A []:=fun h=>absurd h (by simp)
theorem Files.at_ {w:World} {B:Nat} {A:Option Addr} {fs:List FileD} (h:Files w B A fs) {j:Nat} (hj:j < fs.length) :
  ∃ b off f A' n c,A=some ⟨b,off,none⟩∧b < B∧Hid (fs[j]?=some f)∧w.cell? ⟨b,off+j * 3,none⟩=some (.string f.name)∧w.cell? ⟨b,off+j * 3+1,none⟩=some (.slice A' n c)∧w.cell? ⟨b,off+j * 3+2,none⟩=some (.int .i64 f.sure) ∧
   f.name.size≤maxLen∧Bys w B A' f.data∧Hid (f.data.length=n)∧n≤c∧c≤maxLen∧inI f.sure:=by
 obtain ⟨b,off,e,hb,hc⟩:=h (by omega)
 obtain ⟨cs,hl,hcs,A',n,c,rfl,h1,h2,h3,h4,h5,h6⟩:=hc j fs[j] (List.getElem?_eq_getElem hj)
 exact ⟨b,off,fs[j],A',n,c,e,hb,Lib.hid (List.getElem?_eq_getElem hj),hcs 0 _ rfl,hcs 1 _ rfl,hcs 2 _ rfl,h1,ints_in.2 h2,Lib.hid h3,h4,h5,inI_of_wf h6⟩
namespace disk
def signOk (c:UInt8):Bool := !((decide ((c.toNat:Int) < 97) || decide (122 < (c.toNat:Int))) && (decide ((c.toNat:Int) < 48) || decide (57 < (c.toNat:Int))) && ((c.toNat:Int) != 46))
def named (s:ByteArray):Bool:=s.data.toList.all signOk && decide (0 < s.size) && decide (s.size≤16)
def sameName (a b:ByteArray):Bool:=a.toList == b.toList
def upTo (a b:ByteArray):Bool:=Op.bytesLess a.toList b.toList || a.toList == b.toList
def used (fs:List FileD):Nat:=(fs.map fun f=>f.data.length).sum
def fileOk (f:FileD):Bool:=named f.name && decide (0≤f.sure) && decide (f.sure≤(f.data.length:Int)) && decide (f.data.length≤65536)
def goodFrom:Option ByteArray→List FileD→Bool
 | _,[]=>true
 |p,f :: r=>fileOk f && (match p with | none=>true | some q => !upTo f.name q) && goodFrom (some f.name) r
def rightB (d:DiskD):Bool:=decide (0≤d.room) && decide (d.room≤65536) && decide (-1≤d.fuse) && decide (d.files.length≤64) && goodFrom none d.files && decide ((used d.files:Int)≤d.room)
end disk
end Go.Proofs.Ytcpahggkioagkaa
end
section
namespace Go.Proofs.Ytcpahggkioagkaa
set_option maxRecDepth 20000
open Go.RowKit
def Out (S:Nat→Prop) (w w' : World):Nat→Prop:=fun b=>S b∨(w.heap.size≤b∧b < w'.heap.size)
theorem Out.lt {S:Nat→Prop} {w w' : World} (hS:∀ b,S b→b < w.heap.size) (hs:w.heap.size≤w'.heap.size):∀ b,Out S w w' b→b < w'.heap.size:=fun b h=>by
 rcases h with h | h
 ·have:=hS b h;omega
 ·exact h.2
theorem Out.mk {S:Nat→Prop} {w w' : World} : ∀ b,S b→Out S w w' b:=fun _ h=>.inl h
theorem below_alikeS {S:Nat→Prop} {B:Nat} {w w' : World} (h:Below B w w') (hS:∀ b,S b→b < B):Alike S w w':=fun b o hb=>h.cell (p:=⟨b,o,none⟩) (hS b hb)
theorem BysIn.below {S:Nat→Prop} {B:Nat} {w w' : World} {A:Option Addr} {bs:List Nat} (h:BysIn w S A bs) (hS:∀ b,S b→b < B) (hb:Below B w w'):BysIn w' S A bs:=IntsIn.keep h (below_alikeS hb hS) (fun _ h=>h)
theorem FilesIn.below {S:Nat→Prop} {B:Nat} {w w' : World} {A:Option Addr} {fs:List FileD} (h:FilesIn w S A fs) (hS:∀ b,S b→b < B) (hb:Below B w w'):FilesIn w' S A fs:=Elems.keep keeps_file h (below_alikeS hb hS) (fun _ h=>h)
theorem FilesIn.more {S S' : Nat→Prop} {w:World} {A:Option Addr} {fs:List FileD} (h:FilesIn w S A fs) (hS:∀ b,S b→S' b):FilesIn w S' A fs:=Elems.keep keeps_file h (alike_refl _ _) hS
theorem FilesIn.files {S:Nat→Prop} {B:Nat} {w w' : World} {A:Option Addr} {fs:List FileD} (h:FilesIn w S A fs) (hS:∀ b,S b→b < B) (hb:Below B w w'):Files w' B A fs:=(h.below hS hb).more hS
theorem FilesIn.at_ {w:World} {S:Nat→Prop} {A:Option Addr} {fs:List FileD} (h:FilesIn w S A fs) {j:Nat} (hj:j < fs.length) :
  ∃ b off f A' n c,A=some ⟨b,off,none⟩∧S b∧Hid (fs[j]?=some f)∧w.cell? ⟨b,off+j * 3,none⟩=some (.string f.name)∧w.cell? ⟨b,off+j * 3+1,none⟩=some (.slice A' n c)∧w.cell? ⟨b,off+j * 3+2,none⟩=some (.int .i64 f.sure) ∧
   f.name.size≤maxLen∧BysIn w S A' f.data∧Hid (f.data.length=n)∧n≤c∧c≤maxLen∧inI f.sure:=by
 obtain ⟨b,off,e,hb,hc⟩:=h (by omega)
 obtain ⟨cs,hl,hcs,A',n,c,rfl,h1,h2,h3,h4,h5,h6⟩:=hc j fs[j] (List.getElem?_eq_getElem hj)
 exact ⟨b,off,fs[j],A',n,c,e,hb,Lib.hid (List.getElem?_eq_getElem hj),hcs 0 _ rfl,hcs 1 _ rfl,hcs 2 _ rfl,h1,h2,Lib.hid h3,h4,h5,inI_of_wf h6⟩
end Go.Proofs.Ytcpahggkioagkaa
end
section
namespace Go.Proofs.Ytcpahggkioagkaa
set_option maxRecDepth 20000
open Go.RowKit
def Off (own:List Nat) (w:World):Nat→Prop:=fun b=>b < w.heap.size∧b ∉ own
theorem Off.lt {own:List Nat} {w:World} : ∀ b,Off own w b→b < w.heap.size:=fun _ h=>h.1
theorem Off.ret {own:List Nat} {w w' : World} (ho:∀ g ∈ own,g < w.heap.size) (hs:w.heap.size≤w'.heap.size):∀ b,Out (Off own w) w w' b→Off own w' b:=fun b h=>by
 rcases h with h | h
 ·exact ⟨Nat.lt_of_lt_of_le h.1 hs,h.2⟩
 ·exact ⟨h.2,fun hm=>by have:=ho b hm;omega⟩
theorem Off.grow {own:List Nat} {w w' : World} (hs:w.heap.size≤w'.heap.size):∀ b,Off own w b→Off own w' b:=fun b h=>⟨Nat.lt_of_lt_of_le h.1 hs,h.2⟩
theorem Off.cons {own:List Nat} {w w' : World} (hs:w.heap.size≤w'.heap.size) {g:Nat} (hg:w.heap.size≤g):∀ b,Off own w b→Off (g :: own) w' b:=fun b h =>
 ⟨Nat.lt_of_lt_of_le h.1 hs,fun hm=>by
  rcases List.mem_cons.1 hm with e | hm
  ·have:=h.1;omega
  ·exact h.2 hm⟩
section
variable {own:List Nat} {w w' : World} {A:Option Addr} {fs:List FileD} {bs:List Nat}
theorem FilesIn.off (h:FilesIn w (Lt w.heap.size) A fs):FilesIn w (Off [] w) A fs:=h.more (fun b h=>⟨h,by simp⟩)
theorem FilesIn.ret (h:FilesIn w' (Out (Off own w) w w') A fs) (ho:∀ g ∈ own,g < w.heap.size) (hs:w.heap.size≤w'.heap.size):FilesIn w' (Off own w') A fs:=h.more (Off.ret ho hs)
theorem FilesIn.grow (h:FilesIn w (Off own w) A fs) (hb:Below w.heap.size w w'):FilesIn w' (Off own w') A fs:=(h.below Off.lt hb).more (Off.grow hb.size)
theorem FilesIn.alloc (h:FilesIn w (Off own w) A fs) (o:Obj):FilesIn (w.alloc o) (Off own (w.alloc o)) A fs:=h.grow ((Below.refl _ _).alloc (Nat.le_refl _) o)
theorem FilesIn.drew (h:FilesIn w (Off own w) A fs):FilesIn w.drew (Off own w.drew) A fs:=h
theorem BysIn.off (h:BysIn w (Lt w.heap.size) A bs):BysIn w (Off [] w) A bs:=IntsIn.keep h (alike_refl _ _) (fun b h=>⟨h,by simp⟩)
theorem BysIn.ret (h:BysIn w' (Out (Off own w) w w') A bs) (ho:∀ g ∈ own,g < w.heap.size) (hs:w.heap.size≤w'.heap.size):BysIn w' (Off own w') A bs:=IntsIn.keep h (alike_refl _ _) (Off.ret ho hs)
theorem BysIn.grow (h:BysIn w (Off own w) A bs) (hb:Below w.heap.size w w'):BysIn w' (Off own w') A bs:=IntsIn.keep h (below_alikeS hb Off.lt) (Off.grow hb.size)
end
end Go.Proofs.Ytcpahggkioagkaa
end
