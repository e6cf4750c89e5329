/-
  Bytes
-/
import Derived.Test.YtcpahggkioagkaaMvf02
import Derived.Laws.BitsAllLaws
import Derived.Laws.BytesArg
set_option linter.unusedVariables false
set_option linter.unusedSimpArgs false
namespace Go.Proofs.Ytcpahggkioagkaa
set_option maxRecDepth 20000
open Go.RowKit
def toI (bs:List Nat):List Int:=bs.map fun b:Nat=>(b:Int)
theorem toI_len (bs:List Nat):(toI bs).length=bs.length:=by simp [toI]
theorem toI_take (a:List Nat) (k:Nat):toI (a.take k)=(toI a).take k:=by simp [toI,List.map_take]
theorem toI_drop (a:List Nat) (k:Nat):toI (a.drop k)=(toI a).drop k:=by simp [toI,List.map_drop]
def Bys (w:World) (B:Nat) (A:Option Addr) (bs:List Nat):Prop:=Ints .u8 w B A (toI bs)
theorem wf_u8 (b:Nat):(Lit.int .u8 (b:Int)).wf=true ↔ b < 256:=by
 simp [Lit.wf,IntKind.min,IntKind.max,IntKind.signed,IntKind.bits];omega
theorem Bys.nil (w:World) (B:Nat) (A:Option Addr):Bys w B A []:=Ints.nil _ _ _ _
theorem Bys.below {w w' : World} {B:Nat} {A:Option Addr} {bs:List Nat} (h:Bys w B A bs) (hb:Below B w w'):Bys w' B A bs:=Ints.below h hb
theorem Bys.more {w:World} {B B' : Nat} {A:Option Addr} {bs:List Nat} (h:Bys w B A bs) (hb:B≤B'):Bys w B' A bs:=Ints.more h hb
theorem Bys.take {w:World} {B:Nat} {A:Option Addr} {bs:List Nat} (h:Bys w B A bs) (m:Nat):Bys w B A (bs.take m):=by
 unfold Bys;rw [toI_take];exact Ints.take h m
theorem Bys.cut {w:World} {B:Nat} {A:Option Addr} {bs:List Nat} (h:Bys w B A bs) (m cap:Nat) (hc:bs.length≤cap):Bys w B (cutAt A cap m 1) (bs.drop m):=by
 unfold Bys;rw [toI_drop];exact Ints.cut h m cap (by rw [toI_len];exact hc)
theorem Bys.lt {w:World} {B:Nat} {A:Option Addr} {bs:List Nat} (h:Bys w B A bs):∀ b ∈ bs,b < 256:=by
 intro b hb
 exact (wf_u8 b).1 (h.1 _ (List.mem_map.2 ⟨b,hb,rfl⟩))
theorem Bys.at_ {w:World} {B:Nat} {A:Option Addr} {bs:List Nat} (h:Bys w B A bs) {j:Nat} (hj:j < bs.length) :
  ∃ b off,∃ c:Nat,A=some ⟨b,off,none⟩∧b < B∧Hid (bs[j]?=some c)∧w.cell? ⟨b,off+j,none⟩=some (.int .u8 (c:Int))∧c < 256:=by
 obtain ⟨b,off,x,e,hb,HX,hc,hw⟩:=Ints.at_ h (j:=j) (by rw [toI_len];exact hj)
 have hx:=HX.out
 simp only [toI,List.getElem?_map] at hx
 obtain ⟨c,hcc,rfl⟩:=Option.map_eq_some_iff.1 hx
 exact ⟨b,off,c,e,hb,Lib.hid hcc,hc,(wf_u8 c).1 hw⟩
theorem Bys.new {w:World} {t:TypeId} {cs:Array Value} (bs:List Nat) (he:cs.toList=(toI bs).map (Value.int .u8)) (hw:∀ b ∈ bs,b < 256) :
  Bys (w.alloc (.cells cs t)) (w.heap.size+1) (some ⟨w.heap.size,0,none⟩) bs :=
 Ints.new _ he (by intro x hx;obtain ⟨b,hb,rfl⟩:=List.mem_map.1 hx;exact (wf_u8 b).2 (hw b hb))
def OwnBys (w:World) (base:Nat) (e:TypeId) (A:Option Addr) (n c:Nat) (bs:List Nat):Prop:=OwnInts w base e .u8 A n c (toI bs)
section
variable {w w' : World} {base n c:Nat} {e:TypeId} {A:Option Addr} {bs:List Nat}
theorem OwnBys.nil:OwnBys w base e none 0 0 []:=OwnInts.nil
theorem OwnBys.len (h:OwnBys w base e A n c bs):bs.length=n:=by rw [← toI_len];exact OwnInts.len h
theorem OwnBys.alloc (h:OwnBys w base e A n c bs) (o:Obj):OwnBys (w.alloc o) base e A n c bs:=OwnInts.alloc h o
theorem OwnBys.block (h:OwnBys w base e A n c bs):∀ g,(Value.slice A n c).ownBlock=some g→base≤g∧g < w.heap.size:=OwnInts.block h
theorem OwnBys.new {t:TypeId} {cs:Array Value} (hb:base≤w.heap.size) (bs:List Nat) (he:cs.toList=(toI bs).map (Value.int .u8)) (hw:∀ b ∈ bs,b < 256) (hn:bs.length=n) (hm:n≤maxLen) :
  OwnBys (w.alloc (.cells cs t)) base t (some ⟨w.heap.size,0,none⟩) n n bs :=
 OwnInts.new hb _ he (by intro x hx;obtain ⟨b,hb,rfl⟩:=List.mem_map.1 hx;exact (wf_u8 b).2 (hw b hb)) (by rw [toI_len];exact hn) hm
end
theorem OwnBys.at_ {w:World} {base n c:Nat} {e:TypeId} {A:Option Addr} {bs:List Nat} (h:OwnBys w base e A n c bs) {j:Nat} (hj:j < n) :
  ∃ g,∃ x:Nat,A=some ⟨g,0,none⟩∧base≤g∧g < w.heap.size∧Hid (bs[j]?=some x)∧w.cell? ⟨g,j,none⟩=some (.int .u8 (x:Int))∧x < 256∧w.frozen? ⟨g,j,none⟩=false:=by
 obtain ⟨g,x,e,hb,hlt,HX,hc,hw,hf⟩:=OwnInts.at_ h hj
 have hx:=HX.out
 simp only [toI,List.getElem?_map] at hx
 obtain ⟨y,hy,rfl⟩:=Option.map_eq_some_iff.1 hx
 exact ⟨g,y,e,hb,hlt,Lib.hid hy,hc,(wf_u8 y).1 hw,hf⟩
theorem OwnBys.drew {w:World} {base n c:Nat} {e:TypeId} {A:Option Addr} {bs:List Nat} (h:OwnBys w base e A n c bs):OwnBys w.drew base e A n c bs:=h
end Go.Proofs.Ytcpahggkioagkaa
