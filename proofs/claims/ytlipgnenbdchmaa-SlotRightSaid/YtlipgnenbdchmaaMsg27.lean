/-
  DiskRef13, Laid, Do, DiskRef12
-/
import Derived.Test.YtlipgnenbdchmaaMsg20
import Derived.Test.YtlipgnenbdchmaaMsg09
import Derived.Test.YtlipgnenbdchmaaMsg14
set_option linter.unusedVariables false
set_option linter.unusedSimpArgs false
section
namespace Go.Proofs.Ytlipgnenbdchmaa.disk
set_option maxRecDepth 20000
open Go.RowKit
theorem bys_take' {w:World} {S:Nat→Prop} {A:Option Addr} {bs:List Nat} (h:BysIn w S A bs) (m:Nat):BysIn w S A (bs.take m):=by
 obtain ⟨h1,h2⟩:=h
 have e:toI (bs.take m)=(toI bs).take m:=by unfold toI;rw [List.map_take]
 refine ⟨fun x hx=>h1 x (by rw [e] at hx;exact List.mem_of_mem_take hx),fun hn=>?_⟩
 rw [e] at hn ⊢
 obtain ⟨b,off,e1,e2,e3⟩:=h2 (by rw [List.length_take] at hn;omega)
 refine ⟨b,off,e1,e2,fun j hj=>?_⟩
 rw [List.length_take] at hj
 rw [e3 j (by omega)]
 simp only [List.getD_eq_getElem?_getD]
 rw [List.getElem?_take,if_pos (by omega)]
end Go.Proofs.Ytlipgnenbdchmaa.disk
end
section
namespace Go.Proofs.Ytlipgnenbdchmaa
set_option maxRecDepth 20000
open Go.RowKit
def laid (cur:Array Value) (o:Nat):List Value→Array Value
 | []=>cur
 |v :: r=>laid (cur.setIfInBounds o v) (o+1) r
theorem laid_size (cur:Array Value) (o:Nat) (vs:List Value):(laid cur o vs).size=cur.size:=by
 induction vs generalizing cur o with
 |nil=>rfl
 |cons v r ih=>rw [laid,ih];simp
theorem laid_off {cur:Array Value} {o:Nat} {vs:List Value} {k:Nat} (h:k < o∨o+vs.length≤k):(laid cur o vs)[k]?=cur[k]?:=by
 induction vs generalizing cur o with
 |nil=>rfl
 |cons v r ih =>
  simp only [List.length_cons] at h
  rw [laid,ih (by omega),set_cell _ (by omega)]
theorem laid_in {cur:Array Value} {o:Nat} {vs:List Value} {t:Nat} (ht:t < vs.length) (hk:o+vs.length≤cur.size):(laid cur o vs)[o+t]?=vs[t]?:=by
 induction vs generalizing cur o t with
 |nil=>simp at ht
 |cons v r ih =>
  simp only [List.length_cons] at hk ht
  rw [laid]
  cases t with
  |zero =>
   rw [laid_off (by omega)]
   exact set_cell_self v (by omega)
  |succ t =>
   have:=ih (cur:=cur.setIfInBounds o v) (o:=o+1) (t:=t) (by omega) (by simp;omega)
   rw [show o+(t+1)=o+1+t by omega,this];rfl
theorem heap_cells_self {w:World} {g:Nat} {T:TypeId} {cur:Array Value} (o:Nat) (vs:List Value) (h:w.heap[g]?=some (.cells cur T (0,0))):(w.setCells g o vs).heap[g]?=some (.cells (laid cur o vs) T (0,0)):=by
 induction vs generalizing w cur o with
 |nil=>exact h
 |cons v r ih=>exact ih (o+1) (heap_setCell_same w g o _ _ _ h)
theorem heap_cells {w:World} {g b:Nat} (o:Nat) (vs:List Value) (h:b≠g):(w.setCells g o vs).heap[b]?=w.heap[b]?:=by
 induction vs generalizing w o with
 |nil=>rfl
 |cons v r ih=>exact (ih (o+1)).trans (Below.heap_setCell _ _ _ _ h)
theorem below_cells {B:Nat} {w0 w:World} {g:Nat} (hb:Below B w0 w) (h:B≤g) (o:Nat) (vs:List Value):Below B w0 (w.setCells g o vs):=by
 induction vs generalizing w o with
 |nil=>exact hb
 |cons v r ih=>exact ih (hb.setCell (p:=⟨g,o,none⟩) h _) (o+1)
theorem row_cell {w:World} {S:Nat→Prop} {cur:Array Value} {fs:List FileD} (h:RowAt w S cur fs) {k:Nat} (hk:k < fs.length * 3):∃ v,cur[k]?=some v∧v.oneCell'=true:=by
 have hj:k / 3 < fs.length:=by omega
 obtain ⟨v,⟨c0,c1,c2,_⟩,A,n,c,rfl,_⟩:=h (k / 3) _ (List.getElem?_eq_getElem hj)
 have e:k=k / 3 * 3+k % 3:=by omega
 have hm:k % 3 < 3:=by omega
 rcases (show k % 3=0∨k % 3=1∨k % 3=2 by omega) with h1 | h1 | h1
 ·exact ⟨_,by rw [e,h1];exact c0,rfl⟩
 ·exact ⟨_,by rw [e,h1];exact c1,rfl⟩
 ·exact ⟨_,by rw [e,h1];exact c2,rfl⟩
def cellsFrom (cur:Array Value) (i m:Nat):List Value:=(cur.toList.drop (i * 3)).take (m * 3)
theorem from_len {cur:Array Value} {i m:Nat} (h:(i+m) * 3≤cur.size):(cellsFrom cur i m).length=m * 3:=by
 unfold cellsFrom
 rw [List.length_take,List.length_drop,Array.length_toList]
 omega
theorem from_get {cur:Array Value} {i m t:Nat} (h:t < m * 3):(cellsFrom cur i m)[t]?=cur[i * 3+t]?:=by
 unfold cellsFrom
 rw [List.getElem?_take,if_pos h,List.getElem?_drop,Array.getElem?_toList]
theorem from_one {w:World} {S:Nat→Prop} {cur:Array Value} {fs:List FileD} (h:RowAt w S cur fs) {i m:Nat} (hm:i+m≤fs.length):∀ u ∈ cellsFrom cur i m,u.oneCell'=true:=fun u hu=>by
 obtain ⟨t,ht,rfl⟩:=List.getElem_of_mem hu
 have ht3:t < m * 3:=by unfold cellsFrom at ht;rw [List.length_take] at ht;omega
 have e:=from_get (cur:=cur) (i:=i) ht3
 rw [List.getElem?_eq_getElem ht] at e
 obtain ⟨v,h1,h2⟩:=row_cell h (k:=i * 3+t) (by omega)
 rw [h1] at e
 injection e with e
 rw [e];exact h2
theorem FileCells.move {cur cur' : Array Value} {j k:Nat} {f:FileD} {v:Value} (h:FileCells cur j f v) (hm:∀ q,q < 3→cur'[k * 3+q]?=cur[j * 3+q]?):FileCells cur' k f v :=
 ⟨(hm 0 (by omega)).trans h.1,(hm 1 (by omega)).trans h.2.1,(hm 2 (by omega)).trans h.2.2.1,h.2.2.2⟩
theorem RowAt.more {w w' : World} {S S' : Nat→Prop} {cur cur' : Array Value} {fs:List FileD} {i m:Nat} {f0:FileD} {v0:Value} (h:RowAt w S cur fs) (hal:Alike S w w') (hS:∀ b,S b→S' b) (hn:fs.length=i+m)
  (h1:∀ k,k < i * 3→cur'[k]?=cur[k]?) (h2:∀ t,t < m * 3→cur'[(i+1) * 3+t]?=cur[i * 3+t]?) (h0:FileCells cur' i f0 v0) (hd:rdData w' S' v0 f0.data):RowAt w' S' cur' (fs.take i++f0 :: fs.drop i):=fun j f hj=>by
 have hti:(fs.take i).length=i:=by rw [List.length_take];omega
 rcases Nat.lt_trichotomy j i with hji | hji | hji
 ·rw [List.getElem?_append_left (by omega),List.getElem?_take,if_pos hji] at hj
  obtain ⟨v,k1,k2⟩:=h j f hj
  exact ⟨v,k1.move fun q hq=>h1 _ (by omega),k2.keep hal hS⟩
 ·subst hji
  rw [List.getElem?_append_right (by omega),hti,Nat.sub_self] at hj
  simp at hj
  subst hj
  exact ⟨v0,h0,hd⟩
 ·obtain ⟨t,rfl⟩:∃ t,j=i+1+t:=⟨j - i - 1,by omega⟩
  rw [List.getElem?_append_right (by omega),hti,show i+1+t - i=t+1 by omega,List.getElem?_cons_succ,List.getElem?_drop] at hj
  obtain ⟨v,k1,k2⟩:=h (i+t) f hj
  have hl:=(List.getElem?_eq_some_iff.1 hj).1
  refine ⟨v,k1.move fun q hq=>?_,k2.keep hal hS⟩
  have:=h2 (t * 3+q) (by omega)
  rw [show (i+1) * 3+(t * 3+q)=(i+1+t) * 3+q by omega,show i * 3+(t * 3+q)=(i+t) * 3+q by omega] at this
  exact this
end Go.Proofs.Ytlipgnenbdchmaa
end
section
namespace Go.Proofs.Ytlipgnenbdchmaa
set_option maxRecDepth 20000
open Go.RowKit
structure DoD where
 kind:Nat
 file:Nat
 to:Nat
 n:Nat
 data:List Nat
def rdDo:Rd DoD:=fun w S cs d => ∃ A n c,cs=[.int .u8 (d.kind:Int),.int .u8 (d.file:Int),.int .u8 (d.to:Int),.int .u8 (d.n:Int),.slice A n c]∧d.kind < 256∧d.file < 256∧d.to < 256∧d.n < 256∧BysIn w S A d.data∧d.data.length=n∧n≤c∧c≤maxLen
theorem keeps_do:Keeps rdDo:=fun _ _ _ _ _ _ ⟨A,n,c,e,h1,h2,h3,h4,h5,r⟩ hc hS=>⟨A,n,c,e,h1,h2,h3,h4,IntsIn.keep h5 hc hS,r⟩
abbrev DosIn (w:World) (S:Nat→Prop) (A:Option Addr) (ds:List DoD):Prop:=Elems rdDo 5 w S A ds
theorem DosIn.below {S:Nat→Prop} {B:Nat} {w w' : World} {A:Option Addr} {ds:List DoD} (h:DosIn w S A ds) (hS:∀ b,S b→b < B) (hb:Below B w w'):DosIn w' S A ds:=Elems.keep keeps_do h (below_alikeS hb hS) (fun _ h=>h)
theorem DosIn.at_ {w:World} {S:Nat→Prop} {A:Option Addr} {ds:List DoD} (h:DosIn w S A ds) {j:Nat} (hj:j < ds.length) :
  ∃ b off d A' n c,A=some ⟨b,off,none⟩∧S b∧Hid (ds[j]?=some d)∧w.cell? ⟨b,off+j * 5,none⟩=some (.int .u8 (d.kind:Int))∧w.cell? ⟨b,off+j * 5+1,none⟩=some (.int .u8 (d.file:Int))∧w.cell? ⟨b,off+j * 5+2,none⟩=some (.int .u8 (d.to:Int))∧w.cell? ⟨b,off+j * 5+3,none⟩=some (.int .u8 (d.n:Int))∧w.cell? ⟨b,off+j * 5+4,none⟩=some (.slice A' n c) ∧
   d.kind < 256∧d.file < 256∧d.to < 256∧d.n < 256∧BysIn w S A' d.data∧Hid (d.data.length=n)∧n≤c∧c≤maxLen:=by
 obtain ⟨b,off,e,hb,hc⟩:=h (by omega)
 obtain ⟨cs,hl,hcs,A',n,c,rfl,h1,h2,h3,h4,h5,h6,h7⟩:=hc j ds[j] (List.getElem?_eq_getElem hj)
 exact ⟨b,off,ds[j],A',n,c,e,hb,Lib.hid (List.getElem?_eq_getElem hj),hcs 0 _ rfl,hcs 1 _ rfl,hcs 2 _ rfl,hcs 3 _ rfl,hcs 4 _ rfl,h1,h2,h3,h4,h5,Lib.hid h6,h7⟩
end Go.Proofs.Ytlipgnenbdchmaa
end
section
namespace Go.Proofs.Ytlipgnenbdchmaa.disk
set_option maxRecDepth 20000
open Go.RowKit
attribute [local go_sem] undef
theorem OwnInts.cap {w:World} {base n c:Nat} {e:TypeId} {k:IntKind} {A:Option Addr} {xs:List Int} (h:OwnInts w base e k A n c xs):n≤c∧c≤maxLen:=by
 rcases h.1.2 with ⟨hv,h0⟩ | ⟨g,cap,cur,hv,_,_,h2,h3,_⟩
 ·simp only [Value.slice.injEq] at hv
  obtain ⟨_,rfl,rfl⟩:=hv
  exact ⟨Nat.le_refl _,by unfold maxLen;omega⟩
 ·simp only [Value.slice.injEq,true_and] at hv
  obtain ⟨_,rfl⟩:=hv
  exact ⟨h2,h3⟩
theorem OwnBys.in_ {w:World} {base n c:Nat} {e:TypeId} {A:Option Addr} {bs:List Nat} (h:OwnBys w base e A n c bs):BysIn w (fun b=>base≤b∧b < w.heap.size) A bs:=by
 have hi:=OwnInts.ints h
 refine ⟨hi.1,fun hn=>?_⟩
 obtain ⟨b,off,e1,hb,hc⟩:=hi.2 hn
 have hl:=OwnInts.len h
 obtain ⟨g,x,e2,h1,h2,_⟩:=OwnInts.at_ h (j:=0) (by omega)
 rw [e1] at e2
 injection e2 with e2
 injection e2 with e3 e4
 subst e3
 exact ⟨b,off,e1,⟨h1,h2⟩,hc⟩
theorem with_grown {S:Nat→Prop} {w w1 w3 w6:World} {A A6:Option Addr} {n c n6 c6:Nat} {room fuse:Int} {down:Bool} {fs:List FileD} {nm:ByteArray} {d:List Nat} {sure:Int}
  (HFI:∀ W,Below w.heap.size w W→FilesIn W S A fs) (hS:∀ b,S b→b < w.heap.size) (hgw3:Below w.heap.size w w3) (h1s:w.heap.size≤w1.heap.size) (hn3:w1.heap.size < w3.heap.size) (HN:fs.length=n) (hc:n≤1000000)
  (hown:OwnBys w6 w3.heap.size 5 A6 n6 c6 d) (hb6:Below w3.heap.size w3 w6) (hnm:nm.size≤maxLen) (hl:d.length=n6) (hsu:inI sure) :
  Calls Try.prog 57 #[.agg #[.slice A n c,.int .i64 room,.int .i64 fuse,.bool down],.agg #[.string nm,.slice A6 n6 c6,.int .i64 sure]] (w6.setCell ⟨w1.heap.size,1,none⟩ (.slice A6 n6 c6)) (RetDisk (Out S w3 w6) (w6.setCell ⟨w1.heap.size,1,none⟩ (.slice A6 n6 c6)) ⟨withF ⟨nm,d,sure⟩ fs,room,fuse,down⟩):=by
 have hs6:=hb6.size
 have hs3:=hgw3.size
 have hsz:(w6.setCell ⟨w1.heap.size,1,none⟩ (.slice A6 n6 c6)).heap.size=w6.heap.size:=by simp [World.setCell]
 have hal:Alike (Out S w3 w6) w6 (w6.setCell ⟨w1.heap.size,1,none⟩ (.slice A6 n6 c6)):=fun b o hb=>World.cell?_of_block (Below.heap_setCell _ _ _ _ (by
  show b≠w1.heap.size
  rcases hb with hb | hb
  ·have:=hS b hb;omega
  ·omega))
 have hcap:=OwnInts.cap hown
 refine rwith A A6 n c n6 c6 room fuse down fs ⟨nm,d,sure⟩ (Out S w3 w6) _ (fun b hb=>?_) ?_ HN hc hnm ?_ hl hcap.1 hcap.2 hsu
 ·rw [hsz]
  rcases hb with hb | hb
  ·have:=hS b hb;omega
  ·exact hb.2
 ·exact Elems.keep keeps_file (FilesIn.more (HFI w6 (hgw3.trans (hb6.mono hs3))) Out.mk) hal (fun _ h=>h)
 ·exact IntsIn.keep (IntsIn.keep (OwnBys.in_ hown) (alike_refl _ _) (fun b hb=>.inr hb)) hal (fun _ h=>h)
def Kept (w w1 wx:World) (D:Array Value) (f0 f1 f2:Value):Prop:=Below w.heap.size w wx∧w1.heap.size < wx.heap.size∧wx.heap[w.heap.size]?=some (.cells D 24 (0,0))∧wx.heap[w.heap.size+1]?=some (.cells #[.slice none 0 0,.int .i64 0,.int .i64 0,.bool false] 24 (0,0))∧wx.heap[w1.heap.size]?=some (.cells #[f0,f1,f2] 51 (0,0))
end Go.Proofs.Ytlipgnenbdchmaa.disk
end
