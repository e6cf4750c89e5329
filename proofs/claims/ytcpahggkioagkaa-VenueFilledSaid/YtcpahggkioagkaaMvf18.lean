/-
  Api03, DiskRef, DiskRef2, DiskRef3, DiskRef4, DiskRef5, DiskRef6, DiskRef7, Frame, Laid
-/
import Derived.Test.YtcpahggkioagkaaRows
import Derived.Test.YtcpahggkioagkaaMvf09
import Derived.Test.YtcpahggkioagkaaMvf19
import Derived.Test.YtcpahggkioagkaaMvf17
set_option linter.unusedVariables false
set_option linter.unusedSimpArgs false
section
namespace Go.Proofs.Ytcpahggkioagkaa
set_option maxRecDepth 20000
open Go.RowKit
end Go.Proofs.Ytcpahggkioagkaa
end
section
namespace Go.Proofs.Ytcpahggkioagkaa.disk
set_option maxRecDepth 20000
open Go.RowKit
end Go.Proofs.Ytcpahggkioagkaa.disk
end
section
namespace Go.Proofs.Ytcpahggkioagkaa.disk
set_option maxRecDepth 20000
open Go.RowKit
theorem right_no {d:DiskD} (h:goodFrom none d.files=false):false=rightB d:=by unfold rightB;rw [h];simp
end Go.Proofs.Ytcpahggkioagkaa.disk
end
section
namespace Go.Proofs.Ytcpahggkioagkaa.disk
set_option maxRecDepth 20000
open Go.RowKit
end Go.Proofs.Ytcpahggkioagkaa.disk
end
section
namespace Go.Proofs.Ytcpahggkioagkaa.disk
set_option maxRecDepth 20000
open Go.RowKit
end Go.Proofs.Ytcpahggkioagkaa.disk
end
section
namespace Go.Proofs.Ytcpahggkioagkaa.disk
set_option maxRecDepth 20000
open Go.RowKit
end Go.Proofs.Ytcpahggkioagkaa.disk
end
section
namespace Go.Proofs.Ytcpahggkioagkaa.disk
set_option maxRecDepth 20000
open Go.RowKit
end Go.Proofs.Ytcpahggkioagkaa.disk
end
section
namespace Go.Proofs.Ytcpahggkioagkaa.disk
set_option maxRecDepth 20000
open Go.RowKit
def RetOp (S:Nat→Prop) (w:World) (r:DiskD × Int) (e:Ending) (w' : World):Prop :=
 ∃ A n c,e = .returned (.tuple #[.agg #[.slice A n c,.int .i64 r.1.room,.int .i64 r.1.fuse,.bool r.1.down],.int .i64 r.2])∧FilesIn w' (Out S w w') A r.1.files∧Hid (r.1.files.length=n)∧n≤c∧c≤maxLen∧Below w.heap.size w w'
end Go.Proofs.Ytcpahggkioagkaa.disk
end
section
namespace Go.Proofs.Ytcpahggkioagkaa
set_option maxRecDepth 20000
open Go.RowKit
structure DFr (T:TypeId) (w w1 W:World) (d0 d1 d2 d3 r0 r1 r2 r3:Value):Prop where
 low:Below w.heap.size w W
 box:W.heap[w.heap.size]?=some (.cells #[d0,d1,d2,d3] T (0,0))
 res:W.heap[w.heap.size+1]?=some (.cells #[r0,r1,r2,r3] T (0,0))
 size:w1.heap.size≤W.heap.size
 two:w.heap.size+2≤w1.heap.size
 same:∀ b,w.heap.size+2≤b→b < w1.heap.size→W.heap[b]?=w1.heap[b]?
section
variable {T TF:TypeId} {w w1 W W' : World} {d0 d1 d2 d3 r0 r1 r2 r3:Value} {A:Option Addr} {n c:Nat} {fs:List FileD} {S S1:Nat→Prop}
theorem DFr.below (h:DFr T w w1 W d0 d1 d2 d3 r0 r1 r2 r3) (hb:Below W.heap.size W W'):DFr T w w1 W' d0 d1 d2 d3 r0 r1 r2 r3:=by
 have h1:=h.size
 have h2:=h.two
 have h3:=hb.size
 exact ⟨h.low.trans (hb.mono (by omega)),(hb.block _ (by omega)).trans h.box,(hb.block _ (by omega)).trans h.res,by omega,h2,fun b g1 g2=>(hb.block b (by omega)).trans (h.same b g1 g2)⟩
theorem DFr.drew (h:DFr T w w1 W d0 d1 d2 d3 r0 r1 r2 r3):DFr T w w1 W.drew d0 d1 d2 d3 r0 r1 r2 r3:=⟨h.low.drew,h.box,h.res,h.size,h.two,h.same⟩
theorem DFr.cells (h:DFr T w w1 W d0 d1 d2 d3 r0 r1 r2 r3):W.cell? ⟨w.heap.size,0,none⟩=some d0∧W.cell? ⟨w.heap.size,1,none⟩=some d1∧W.cell? ⟨w.heap.size,2,none⟩=some d2∧W.cell? ⟨w.heap.size,3,none⟩=some d3 ∧
  W.cell? ⟨w.heap.size+1,0,none⟩=some r0∧W.cell? ⟨w.heap.size+1,1,none⟩=some r1∧W.cell? ⟨w.heap.size+1,2,none⟩=some r2∧W.cell? ⟨w.heap.size+1,3,none⟩=some r3 ∧
  W.frozen? ⟨w.heap.size,0,none⟩=false∧W.frozen? ⟨w.heap.size,1,none⟩=false∧W.frozen? ⟨w.heap.size,2,none⟩=false∧W.frozen? ⟨w.heap.size,3,none⟩=false ∧
  W.frozen? ⟨w.heap.size+1,0,none⟩=false∧W.frozen? ⟨w.heap.size+1,1,none⟩=false∧W.frozen? ⟨w.heap.size+1,2,none⟩=false∧W.frozen? ⟨w.heap.size+1,3,none⟩=false :=
 ⟨(block_cell h.box 0 _ rfl).1,(block_cell h.box 1 _ rfl).1,(block_cell h.box 2 _ rfl).1,(block_cell h.box 3 _ rfl).1,(block_cell h.res 0 _ rfl).1,(block_cell h.res 1 _ rfl).1,(block_cell h.res 2 _ rfl).1,(block_cell h.res 3 _ rfl).1,
  (block_cell h.box 0 _ rfl).2,(block_cell h.box 1 _ rfl).2,(block_cell h.box 2 _ rfl).2,(block_cell h.box 3 _ rfl).2,(block_cell h.res 0 _ rfl).2,(block_cell h.res 1 _ rfl).2,(block_cell h.res 2 _ rfl).2,(block_cell h.res 3 _ rfl).2⟩
theorem OwnF.block {base:Nat} {T:TypeId} (h:OwnF w base T S A n c fs):∀ g,A=some ⟨g,0,none⟩→base≤g∧g < w.heap.size:=fun g e=>by
 rcases h.2.2.2 with ⟨h1,_⟩ | ⟨g',cur,h1,h2,h3,_⟩
 ·rw [h1] at e;cases e
 ·rw [h1] at e
  rw [addr_eq e]
  refine ⟨h2,?_⟩
  rcases Nat.lt_or_ge g' w.heap.size with hl | hl
  ·exact hl
  ·rw [Array.getElem?_eq_none hl] at h3;cases h3
theorem DFr.own {base:Nat} (h:DFr T w w1 W d0 d1 d2 d3 r0 r1 r2 r3) (ho:OwnF w1 base TF S1 A n c fs) (hb:w.heap.size+2≤base) (hS:∀ b,S1 b→w.heap.size+2≤b∧b < w1.heap.size):OwnF W base TF S1 A n c fs :=
 ho.keep (fun g e=>by have:=ho.block g e;exact h.same g (by omega) this.2) (fun b o hSb=>World.cell?_of_block (h.same b (hS b hSb).1 (hS b hSb).2))
theorem OwnF.all {base:Nat} {T:TypeId} (h:OwnF w base T S A n c fs) (hS:∀ b,S b→b < w.heap.size):FilesIn w (Lt w.heap.size) A fs:=h.files hS (fun g e=>(h.block g e).2)
theorem DFr.ret {base:Nat} (h:DFr T w w1 W d0 d1 d2 d3 r0 r1 r2 r3) (ho:OwnF W base TF S1 A n c fs) (hb:w.heap.size≤base) (hS:∀ b,S1 b→w.heap.size≤b∧b < W.heap.size) (room fuse:Int) (down:Bool) (x:Int) :
  disk.RetOp S w (⟨fs,room,fuse,down⟩,x) (.returned (.tuple #[.agg #[.slice A n c,.int .i64 room,.int .i64 fuse,.bool down],.int .i64 x])) W :=
 ⟨A,n,c,rfl,ho.files (fun b hb'=>.inr (hS b hb')) (fun g e=>.inr (by have:=ho.block g e;omega)),Lib.hid ho.len,ho.cap.1,ho.cap.2,h.low⟩
theorem RowAt.set {cur cur' : Array Value} {k:Nat} {f' : FileD} {v:Value} (h:RowAt W S cur fs) (hc:Alike S W W') (hoff:∀ i,(i < k * 3∨k * 3+3≤i)→cur'[i]?=cur[i]?) (hk:FileCells cur' k f' v) (hd:rdData W' S v f'.data):RowAt W' S cur' (fs.set k f'):=fun j f hj=>by
 rw [List.getElem?_set] at hj
 by_cases e:k=j
 ·subst e
  rw [if_pos rfl] at hj
  by_cases hl:k < fs.length
  ·rw [if_pos hl] at hj
   injection hj with hj
   subst hj
   exact ⟨v,hk,hd⟩
  ·rw [if_neg hl] at hj;cases hj
 ·rw [if_neg e] at hj
  obtain ⟨u,⟨c0,c1,c2,c3⟩,d1⟩:=h j f hj
  exact ⟨u,⟨by rw [hoff _ (by omega)];exact c0,by rw [hoff _ (by omega)];exact c1,by rw [hoff _ (by omega)];exact c2,c3⟩,d1.keep hc (fun _ h=>h)⟩
end
end Go.Proofs.Ytcpahggkioagkaa
end
section
namespace Go.Proofs.Ytcpahggkioagkaa
set_option maxRecDepth 20000
open Go.RowKit
def laid (cur:Array Value) (o:Nat):List Value→Array Value
 | []=>cur
 |v :: r=>laid (cur.setIfInBounds o v) (o+1) r
theorem laid_size (cur:Array Value) (o:Nat) (vs:List Value):(laid cur o vs).size=cur.size:=by
 induction vs generalizing cur o with
 |nil=>rfl
 |cons v r ih=>rw [laid,ih];simp
theorem laid_off {cur:Array Value} {o:Nat} {vs:List Value} {k:Nat} (h:k < o∨o+vs.length≤k):(laid cur o vs)[k]?=cur[k]?:=by
 induction vs generalizing cur o with
 |nil=>rfl
 |cons v r ih =>
  simp only [List.length_cons] at h
  rw [laid,ih (by omega),set_cell _ (by omega)]
theorem laid_in {cur:Array Value} {o:Nat} {vs:List Value} {t:Nat} (ht:t < vs.length) (hk:o+vs.length≤cur.size):(laid cur o vs)[o+t]?=vs[t]?:=by
 induction vs generalizing cur o t with
 |nil=>simp at ht
 |cons v r ih =>
  simp only [List.length_cons] at hk ht
  rw [laid]
  cases t with
  |zero =>
   rw [laid_off (by omega)]
   exact set_cell_self v (by omega)
  |succ t =>
   have:=ih (cur:=cur.setIfInBounds o v) (o:=o+1) (t:=t) (by omega) (by simp;omega)
   rw [show o+(t+1)=o+1+t by omega,this];rfl
theorem heap_cells_self {w:World} {g:Nat} {T:TypeId} {cur:Array Value} (o:Nat) (vs:List Value) (h:w.heap[g]?=some (.cells cur T (0,0))):(w.setCells g o vs).heap[g]?=some (.cells (laid cur o vs) T (0,0)):=by
 induction vs generalizing w cur o with
 |nil=>exact h
 |cons v r ih=>exact ih (o+1) (heap_setCell_same w g o _ _ _ h)
theorem heap_cells {w:World} {g b:Nat} (o:Nat) (vs:List Value) (h:b≠g):(w.setCells g o vs).heap[b]?=w.heap[b]?:=by
 induction vs generalizing w o with
 |nil=>rfl
 |cons v r ih=>exact (ih (o+1)).trans (Below.heap_setCell _ _ _ _ h)
theorem below_cells {B:Nat} {w0 w:World} {g:Nat} (hb:Below B w0 w) (h:B≤g) (o:Nat) (vs:List Value):Below B w0 (w.setCells g o vs):=by
 induction vs generalizing w o with
 |nil=>exact hb
 |cons v r ih=>exact ih (hb.setCell (p:=⟨g,o,none⟩) h _) (o+1)
theorem FileCells.move {cur cur' : Array Value} {j k:Nat} {f:FileD} {v:Value} (h:FileCells cur j f v) (hm:∀ q,q < 3→cur'[k * 3+q]?=cur[j * 3+q]?):FileCells cur' k f v :=
 ⟨(hm 0 (by omega)).trans h.1,(hm 1 (by omega)).trans h.2.1,(hm 2 (by omega)).trans h.2.2.1,h.2.2.2⟩
theorem RowAt.more {w w' : World} {S S' : Nat→Prop} {cur cur' : Array Value} {fs:List FileD} {i m:Nat} {f0:FileD} {v0:Value} (h:RowAt w S cur fs) (hal:Alike S w w') (hS:∀ b,S b→S' b) (hn:fs.length=i+m)
  (h1:∀ k,k < i * 3→cur'[k]?=cur[k]?) (h2:∀ t,t < m * 3→cur'[(i+1) * 3+t]?=cur[i * 3+t]?) (h0:FileCells cur' i f0 v0) (hd:rdData w' S' v0 f0.data):RowAt w' S' cur' (fs.take i++f0 :: fs.drop i):=fun j f hj=>by
 have hti:(fs.take i).length=i:=by rw [List.length_take];omega
 rcases Nat.lt_trichotomy j i with hji | hji | hji
 ·rw [List.getElem?_append_left (by omega),List.getElem?_take,if_pos hji] at hj
  obtain ⟨v,k1,k2⟩:=h j f hj
  exact ⟨v,k1.move fun q hq=>h1 _ (by omega),k2.keep hal hS⟩
 ·subst hji
  rw [List.getElem?_append_right (by omega),hti,Nat.sub_self] at hj
  simp at hj
  subst hj
  exact ⟨v0,h0,hd⟩
 ·obtain ⟨t,rfl⟩:∃ t,j=i+1+t:=⟨j - i - 1,by omega⟩
  rw [List.getElem?_append_right (by omega),hti,show i+1+t - i=t+1 by omega,List.getElem?_cons_succ,List.getElem?_drop] at hj
  obtain ⟨v,k1,k2⟩:=h (i+t) f hj
  have hl:=(List.getElem?_eq_some_iff.1 hj).1
  refine ⟨v,k1.move fun q hq=>?_,k2.keep hal hS⟩
  have:=h2 (t * 3+q) (by omega)
  rw [show (i+1) * 3+(t * 3+q)=(i+1+t) * 3+q by omega,show i * 3+(t * 3+q)=(i+t) * 3+q by omega] at this
  exact this
end Go.Proofs.Ytcpahggkioagkaa
end
