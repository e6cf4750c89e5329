/-
  Api03, DiskRef, DiskRef2, DiskRef3, DiskRef4, DiskRef5, DiskRef6, DiskRef7, Frame, DiskRef13, Laid, Do, FrameImpl1, DiskRef12
-/
import Derived.Test.YtalhdalinpdanaaGreatDoorRows
import Derived.Test.YtalhdalinpdanaaGreatDoorMwl04
import Derived.Test.YtalhdalinpdanaaGreatDoorMwl06
import Derived.Test.YtalhdalinpdanaaGreatDoorMwl19
import Derived.Test.YtalhdalinpdanaaGreatDoorMwl05
set_option linter.unusedVariables false
set_option linter.unusedSimpArgs false
section
namespace Go.Proofs.YtalhdalinpdanaaGreatDoor
set_option maxRecDepth 20000
open Go.RowKit
end Go.Proofs.YtalhdalinpdanaaGreatDoor
end
section
namespace Go.Proofs.YtalhdalinpdanaaGreatDoor.disk
set_option maxRecDepth 20000
open Go.RowKit
theorem retb {a b:Bool} (h:a=b):Ending.returned (.bool a) = .returned (.bool b):=by rw [h]
theorem reti {k:IntKind} {a b:Int} (h:a=b):Ending.returned (.int k a) = .returned (.int k b):=by rw [h]
theorem take_all {s:ByteArray} {k:Nat} (h:k < s.size) (hp:(s.data.toList.take k).all signOk=true):(s.data.toList.take (k+1)).all signOk=signOk s[k]:=by
 rw [List.take_succ_eq_append_getElem (by simpa using h),List.all_append,hp]
 simp
 rfl
theorem named_no {s:ByteArray} {k:Nat} (h:k < s.size) (hb:signOk s[k]=false):named s=false:=by
 unfold named
 have:s.data.toList.all signOk=false:=by
  rw [List.all_eq_false]
  refine ⟨s[k],?_,by rw [hb];simp⟩
  exact List.getElem_mem (l:=s.data.toList) (by simpa using h)
 rw [this];rfl
theorem sign_cases (c:UInt8):(((c.toNat:Int) != 46)=false∧(c.toNat:Int) < 48∧signOk c=true)∨(((c.toNat:Int) != 46)=true∧(c.toNat:Int) < 48∧signOk c=false)∨(((c.toNat:Int) != 46)=true∧48≤(c.toNat:Int)∧(c.toNat:Int)≤57∧signOk c=true) ∨
  (((c.toNat:Int) != 46)=true∧57 < (c.toNat:Int)∧(c.toNat:Int) < 97∧signOk c=false)∨(((c.toNat:Int) != 46)=true∧97≤(c.toNat:Int)∧(c.toNat:Int)≤122∧signOk c=true)∨(((c.toNat:Int) != 46)=true∧122 < (c.toNat:Int)∧signOk c=false):=by
 unfold signOk
 generalize (c.toNat:Int)=x
 simp only [bne_iff_ne,bne_eq_false_iff_eq,Bool.not_eq_true',Bool.not_eq_false',Bool.and_eq_true,Bool.and_eq_false_iff,Bool.or_eq_true,Bool.or_eq_false_iff,decide_eq_true_eq,decide_eq_false_iff_not,ne_eq]
 omega
theorem used_step {fs:List FileD} {k:Nat} {f:FileD} (h:fs[k]?=some f):used (fs.take (k+1))=used (fs.take k)+f.data.length:=by
 unfold used
 rw [List.take_add_one,h]
 simp
theorem used_take (fs:List FileD) (k:Nat):used (fs.take k)≤used fs:=by
 unfold used
 conv=>rhs;rw [← List.take_append_drop k fs]
 rw [List.map_append,List.sum_append]
 omega
end Go.Proofs.YtalhdalinpdanaaGreatDoor.disk
end
section
namespace Go.Proofs.YtalhdalinpdanaaGreatDoor.disk
set_option maxRecDepth 20000
open Go.RowKit
theorem right_no {d:DiskD} (h:goodFrom none d.files=false):false=rightB d:=by unfold rightB;rw [h];simp
end Go.Proofs.YtalhdalinpdanaaGreatDoor.disk
end
section
namespace Go.Proofs.YtalhdalinpdanaaGreatDoor.disk
set_option maxRecDepth 20000
open Go.RowKit
end Go.Proofs.YtalhdalinpdanaaGreatDoor.disk
end
section
namespace Go.Proofs.YtalhdalinpdanaaGreatDoor.disk
set_option maxRecDepth 20000
open Go.RowKit
end Go.Proofs.YtalhdalinpdanaaGreatDoor.disk
end
section
namespace Go.Proofs.YtalhdalinpdanaaGreatDoor.disk
set_option maxRecDepth 20000
open Go.RowKit
end Go.Proofs.YtalhdalinpdanaaGreatDoor.disk
end
section
namespace Go.Proofs.YtalhdalinpdanaaGreatDoor.disk
set_option maxRecDepth 20000
open Go.RowKit
end Go.Proofs.YtalhdalinpdanaaGreatDoor.disk
end
section
namespace Go.Proofs.YtalhdalinpdanaaGreatDoor.disk
set_option maxRecDepth 20000
open Go.RowKit
def RetOp (S:Nat→Prop) (w:World) (r:DiskD × Int) (e:Ending) (w' : World):Prop :=
 ∃ A n c,e = .returned (.tuple #[.agg #[.slice A n c,.int .i64 r.1.room,.int .i64 r.1.fuse,.bool r.1.down],.int .i64 r.2])∧FilesIn w' (Out S w w') A r.1.files∧Hid (r.1.files.length=n)∧n≤c∧c≤maxLen∧Below w.heap.size w w'
theorem op_first {d:DiskD} {a b:ByteArray} {pre x:Int} {fs:List FileD} {app:Bool} (h:firstE d a b=x) (hx:x≠0):opD d a b pre fs app=(d,x):=by unfold opD;rw [h,if_pos hx]
theorem op_pre {d:DiskD} {a b:ByteArray} {pre y:Int} {fs:List FileD} {app:Bool} (h:firstE d a b=0) (hp:pre=y) (hy:y≠0):opD d a b pre fs app=(d,y):=by unfold opD;rw [h,if_neg (by simp),hp,if_pos hy]
theorem op_down {d:DiskD} {a b:ByteArray} {pre:Int} {fs:List FileD} {app:Bool} (h:firstE d a b=0) (hp:pre=0) (hf:d.fuse=0):opD d a b pre fs app=(⟨if app then fs else d.files,d.room,0,true⟩,9):=by
 unfold opD;rw [h,if_neg (by simp),hp,if_neg (by simp),if_pos hf,hf]
theorem op_done {d:DiskD} {a b:ByteArray} {pre f2:Int} {fs:List FileD} {app:Bool} (h:firstE d a b=0) (hp:pre=0) (hf:d.fuse≠0) (h2:(if 0 < d.fuse then d.fuse - 1 else d.fuse)=f2):opD d a b pre fs app=(⟨fs,d.room,f2,d.down⟩,0):=by
 unfold opD;rw [h,if_neg (by simp),hp,if_neg (by simp),if_neg hf,h2]
end Go.Proofs.YtalhdalinpdanaaGreatDoor.disk
end
section
namespace Go.Proofs.YtalhdalinpdanaaGreatDoor
set_option maxRecDepth 20000
open Go.RowKit
structure DFr (T:TypeId) (w w1 W:World) (d0 d1 d2 d3 r0 r1 r2 r3:Value):Prop where
 low:Below w.heap.size w W
 box:W.heap[w.heap.size]?=some (.cells #[d0,d1,d2,d3] T (0,0))
 res:W.heap[w.heap.size+1]?=some (.cells #[r0,r1,r2,r3] T (0,0))
 size:w1.heap.size≤W.heap.size
 two:w.heap.size+2≤w1.heap.size
 same:∀ b,w.heap.size+2≤b→b < w1.heap.size→W.heap[b]?=w1.heap[b]?
section
variable {T TF:TypeId} {w w1 W W' : World} {d0 d1 d2 d3 r0 r1 r2 r3:Value} {A:Option Addr} {n c:Nat} {fs:List FileD} {S S1:Nat→Prop}
theorem DFr.below (h:DFr T w w1 W d0 d1 d2 d3 r0 r1 r2 r3) (hb:Below W.heap.size W W'):DFr T w w1 W' d0 d1 d2 d3 r0 r1 r2 r3:=by
 have h1:=h.size
 have h2:=h.two
 have h3:=hb.size
 exact ⟨h.low.trans (hb.mono (by omega)),(hb.block _ (by omega)).trans h.box,(hb.block _ (by omega)).trans h.res,by omega,h2,fun b g1 g2=>(hb.block b (by omega)).trans (h.same b g1 g2)⟩
theorem DFr.setBox (h:DFr T w w1 W d0 d1 d2 d3 r0 r1 r2 r3) (v0 v1 v2 v3:Value):DFr T w w1 ((((W.setCell ⟨w.heap.size,0,none⟩ v0).setCell ⟨w.heap.size,1,none⟩ v1).setCell ⟨w.heap.size,2,none⟩ v2).setCell ⟨w.heap.size,3,none⟩ v3) v0 v1 v2 v3 r0 r1 r2 r3 :=
 ⟨below_set4 h.low (Nat.le_refl _) _ _ _ _,heap_set4_self _ _ _ _ h.box,(heap_set4 _ _ _ _ (by omega)).trans h.res,by rw [size_set4];exact h.size,h.two,fun b g1 g2=>(heap_set4 _ _ _ _ (by omega)).trans (h.same b g1 g2)⟩
theorem DFr.setRes (h:DFr T w w1 W d0 d1 d2 d3 r0 r1 r2 r3) (v0 v1 v2 v3:Value):DFr T w w1 ((((W.setCell ⟨w.heap.size+1,0,none⟩ v0).setCell ⟨w.heap.size+1,1,none⟩ v1).setCell ⟨w.heap.size+1,2,none⟩ v2).setCell ⟨w.heap.size+1,3,none⟩ v3) d0 d1 d2 d3 v0 v1 v2 v3 :=
 ⟨below_set4 h.low (by omega) _ _ _ _,(heap_set4 _ _ _ _ (by omega)).trans h.box,heap_set4_self _ _ _ _ h.res,by rw [size_set4];exact h.size,h.two,fun b g1 g2=>(heap_set4 _ _ _ _ (by omega)).trans (h.same b g1 g2)⟩
theorem DFr.set0 (h:DFr T w w1 W d0 d1 d2 d3 r0 r1 r2 r3) (v:Value):DFr T w w1 (W.setCell ⟨w.heap.size,0,none⟩ v) v d1 d2 d3 r0 r1 r2 r3 :=
 ⟨h.low.setCell (p:=⟨w.heap.size,0,none⟩) (Nat.le_refl _) _,heap_setCell_same _ _ 0 _ _ _ h.box,(Below.heap_setCell _ _ _ _ (by show w.heap.size+1≠w.heap.size;omega)).trans h.res,by simpa [World.setCell] using h.size,h.two,fun b g1 g2=>(Below.heap_setCell _ _ _ _ (by show b≠w.heap.size;omega)).trans (h.same b g1 g2)⟩
theorem DFr.set2 (h:DFr T w w1 W d0 d1 d2 d3 r0 r1 r2 r3) (v:Value):DFr T w w1 (W.setCell ⟨w.heap.size,2,none⟩ v) d0 d1 v d3 r0 r1 r2 r3 :=
 ⟨h.low.setCell (p:=⟨w.heap.size,2,none⟩) (Nat.le_refl _) _,heap_setCell_same _ _ 2 _ _ _ h.box,(Below.heap_setCell _ _ _ _ (by show w.heap.size+1≠w.heap.size;omega)).trans h.res,by simpa [World.setCell] using h.size,h.two,fun b g1 g2=>(Below.heap_setCell _ _ _ _ (by show b≠w.heap.size;omega)).trans (h.same b g1 g2)⟩
theorem DFr.set3 (h:DFr T w w1 W d0 d1 d2 d3 r0 r1 r2 r3) (v:Value):DFr T w w1 (W.setCell ⟨w.heap.size,3,none⟩ v) d0 d1 d2 v r0 r1 r2 r3 :=
 ⟨h.low.setCell (p:=⟨w.heap.size,3,none⟩) (Nat.le_refl _) _,heap_setCell_same _ _ 3 _ _ _ h.box,(Below.heap_setCell _ _ _ _ (by show w.heap.size+1≠w.heap.size;omega)).trans h.res,by simpa [World.setCell] using h.size,h.two,fun b g1 g2=>(Below.heap_setCell _ _ _ _ (by show b≠w.heap.size;omega)).trans (h.same b g1 g2)⟩
theorem DFr.drew (h:DFr T w w1 W d0 d1 d2 d3 r0 r1 r2 r3):DFr T w w1 W.drew d0 d1 d2 d3 r0 r1 r2 r3:=⟨h.low.drew,h.box,h.res,h.size,h.two,h.same⟩
theorem DFr.drewN (h:DFr T w w1 W d0 d1 d2 d3 r0 r1 r2 r3) (m:Nat):DFr T w w1 (W.drewN m) d0 d1 d2 d3 r0 r1 r2 r3:=⟨below_drewN h.low m,h.box,h.res,h.size,h.two,h.same⟩
theorem DFr.rebase (h:DFr T w w1 W d0 d1 d2 d3 r0 r1 r2 r3):DFr T w W W d0 d1 d2 d3 r0 r1 r2 r3 :=
 ⟨h.low,h.box,h.res,Nat.le_refl _,by have:=h.size;have:=h.two;omega,fun _ _ _=>rfl⟩
theorem DFr.setOwn (h:DFr T w w1 W d0 d1 d2 d3 r0 r1 r2 r3) {g i:Nat} (hg:w.heap.size+2≤g) (v:Value):DFr T w (W.setCell ⟨g,i,none⟩ v) (W.setCell ⟨g,i,none⟩ v) d0 d1 d2 d3 r0 r1 r2 r3 :=
 ⟨h.low.setCell (p:=⟨g,i,none⟩) (by show w.heap.size≤g;omega) _,(Below.heap_setCell _ _ _ _ (by show w.heap.size≠g;omega)).trans h.box,(Below.heap_setCell _ _ _ _ (by show w.heap.size+1≠g;omega)).trans h.res,Nat.le_refl _,by have:=h.size;have:=h.two;simp [World.setCell];omega,fun _ _ _=>rfl⟩
theorem DFr.other (h:DFr T w w1 W d0 d1 d2 d3 r0 r1 r2 r3) (hb:Below (w.heap.size+2) W W'):DFr T w W' W' d0 d1 d2 d3 r0 r1 r2 r3:=by
 have h1:=h.size
 have h2:=h.two
 have h3:=hb.size
 exact ⟨h.low.trans (hb.mono (by omega)),(hb.block _ (by omega)).trans h.box,(hb.block _ (by omega)).trans h.res,Nat.le_refl _,by omega,fun _ _ _=>rfl⟩
theorem DFr.cells (h:DFr T w w1 W d0 d1 d2 d3 r0 r1 r2 r3):W.cell? ⟨w.heap.size,0,none⟩=some d0∧W.cell? ⟨w.heap.size,1,none⟩=some d1∧W.cell? ⟨w.heap.size,2,none⟩=some d2∧W.cell? ⟨w.heap.size,3,none⟩=some d3 ∧
  W.cell? ⟨w.heap.size+1,0,none⟩=some r0∧W.cell? ⟨w.heap.size+1,1,none⟩=some r1∧W.cell? ⟨w.heap.size+1,2,none⟩=some r2∧W.cell? ⟨w.heap.size+1,3,none⟩=some r3 ∧
  W.frozen? ⟨w.heap.size,0,none⟩=false∧W.frozen? ⟨w.heap.size,1,none⟩=false∧W.frozen? ⟨w.heap.size,2,none⟩=false∧W.frozen? ⟨w.heap.size,3,none⟩=false ∧
  W.frozen? ⟨w.heap.size+1,0,none⟩=false∧W.frozen? ⟨w.heap.size+1,1,none⟩=false∧W.frozen? ⟨w.heap.size+1,2,none⟩=false∧W.frozen? ⟨w.heap.size+1,3,none⟩=false :=
 ⟨(block_cell h.box 0 _ rfl).1,(block_cell h.box 1 _ rfl).1,(block_cell h.box 2 _ rfl).1,(block_cell h.box 3 _ rfl).1,(block_cell h.res 0 _ rfl).1,(block_cell h.res 1 _ rfl).1,(block_cell h.res 2 _ rfl).1,(block_cell h.res 3 _ rfl).1,
  (block_cell h.box 0 _ rfl).2,(block_cell h.box 1 _ rfl).2,(block_cell h.box 2 _ rfl).2,(block_cell h.box 3 _ rfl).2,(block_cell h.res 0 _ rfl).2,(block_cell h.res 1 _ rfl).2,(block_cell h.res 2 _ rfl).2,(block_cell h.res 3 _ rfl).2⟩
theorem OwnF.block {base:Nat} {T:TypeId} (h:OwnF w base T S A n c fs):∀ g,A=some ⟨g,0,none⟩→base≤g∧g < w.heap.size:=fun g e=>by
 rcases h.2.2.2 with ⟨h1,_⟩ | ⟨g',cur,h1,h2,h3,_⟩
 ·rw [h1] at e;cases e
 ·rw [h1] at e
  rw [addr_eq e]
  refine ⟨h2,?_⟩
  rcases Nat.lt_or_ge g' w.heap.size with hl | hl
  ·exact hl
  ·rw [Array.getElem?_eq_none hl] at h3;cases h3
theorem DFr.own {base:Nat} (h:DFr T w w1 W d0 d1 d2 d3 r0 r1 r2 r3) (ho:OwnF w1 base TF S1 A n c fs) (hb:w.heap.size+2≤base) (hS:∀ b,S1 b→w.heap.size+2≤b∧b < w1.heap.size):OwnF W base TF S1 A n c fs :=
 ho.keep (fun g e=>by have:=ho.block g e;exact h.same g (by omega) this.2) (fun b o hSb=>World.cell?_of_block (h.same b (hS b hSb).1 (hS b hSb).2))
theorem OwnF.all {base:Nat} {T:TypeId} (h:OwnF w base T S A n c fs) (hS:∀ b,S b→b < w.heap.size):FilesIn w (Lt w.heap.size) A fs:=h.files hS (fun g e=>(h.block g e).2)
theorem DFr.ret {base:Nat} (h:DFr T w w1 W d0 d1 d2 d3 r0 r1 r2 r3) (ho:OwnF W base TF S1 A n c fs) (hb:w.heap.size≤base) (hS:∀ b,S1 b→w.heap.size≤b∧b < W.heap.size) (room fuse:Int) (down:Bool) (x:Int) :
  disk.RetOp S w (⟨fs,room,fuse,down⟩,x) (.returned (.tuple #[.agg #[.slice A n c,.int .i64 room,.int .i64 fuse,.bool down],.int .i64 x])) W :=
 ⟨A,n,c,rfl,ho.files (fun b hb'=>.inr (hS b hb')) (fun g e=>.inr (by have:=ho.block g e;omega)),Lib.hid ho.len,ho.cap.1,ho.cap.2,h.low⟩
theorem RowAt.set {cur cur' : Array Value} {k:Nat} {f' : FileD} {v:Value} (h:RowAt W S cur fs) (hc:Alike S W W') (hoff:∀ i,(i < k * 3∨k * 3+3≤i)→cur'[i]?=cur[i]?) (hk:FileCells cur' k f' v) (hd:rdData W' S v f'.data):RowAt W' S cur' (fs.set k f'):=fun j f hj=>by
 rw [List.getElem?_set] at hj
 by_cases e:k=j
 ·subst e
  rw [if_pos rfl] at hj
  by_cases hl:k < fs.length
  ·rw [if_pos hl] at hj
   injection hj with hj
   subst hj
   exact ⟨v,hk,hd⟩
  ·rw [if_neg hl] at hj;cases hj
 ·rw [if_neg e] at hj
  obtain ⟨u,⟨c0,c1,c2,c3⟩,d1⟩:=h j f hj
  exact ⟨u,⟨by rw [hoff _ (by omega)];exact c0,by rw [hoff _ (by omega)];exact c1,by rw [hoff _ (by omega)];exact c2,c3⟩,d1.keep hc (fun _ h=>h)⟩
end
end Go.Proofs.YtalhdalinpdanaaGreatDoor
end
section
namespace Go.Proofs.YtalhdalinpdanaaGreatDoor.disk
set_option maxRecDepth 20000
open Go.RowKit
theorem bys_take' {w:World} {S:Nat→Prop} {A:Option Addr} {bs:List Nat} (h:BysIn w S A bs) (m:Nat):BysIn w S A (bs.take m):=by
 obtain ⟨h1,h2⟩:=h
 have e:toI (bs.take m)=(toI bs).take m:=by unfold toI;rw [List.map_take]
 refine ⟨fun x hx=>h1 x (by rw [e] at hx;exact List.mem_of_mem_take hx),fun hn=>?_⟩
 rw [e] at hn ⊢
 obtain ⟨b,off,e1,e2,e3⟩:=h2 (by rw [List.length_take] at hn;omega)
 refine ⟨b,off,e1,e2,fun j hj=>?_⟩
 rw [List.length_take] at hj
 rw [e3 j (by omega)]
 simp only [List.getD_eq_getElem?_getD]
 rw [List.getElem?_take,if_pos (by omega)]
end Go.Proofs.YtalhdalinpdanaaGreatDoor.disk
end
section
namespace Go.Proofs.YtalhdalinpdanaaGreatDoor
set_option maxRecDepth 20000
open Go.RowKit
def laid (cur:Array Value) (o:Nat):List Value→Array Value
 | []=>cur
 |v :: r=>laid (cur.setIfInBounds o v) (o+1) r
theorem laid_size (cur:Array Value) (o:Nat) (vs:List Value):(laid cur o vs).size=cur.size:=by
 induction vs generalizing cur o with
 |nil=>rfl
 |cons v r ih=>rw [laid,ih];simp
theorem laid_off {cur:Array Value} {o:Nat} {vs:List Value} {k:Nat} (h:k < o∨o+vs.length≤k):(laid cur o vs)[k]?=cur[k]?:=by
 induction vs generalizing cur o with
 |nil=>rfl
 |cons v r ih =>
  simp only [List.length_cons] at h
  rw [laid,ih (by omega),set_cell _ (by omega)]
theorem laid_in {cur:Array Value} {o:Nat} {vs:List Value} {t:Nat} (ht:t < vs.length) (hk:o+vs.length≤cur.size):(laid cur o vs)[o+t]?=vs[t]?:=by
 induction vs generalizing cur o t with
 |nil=>simp at ht
 |cons v r ih =>
  simp only [List.length_cons] at hk ht
  rw [laid]
  cases t with
  |zero =>
   rw [laid_off (by omega)]
   exact set_cell_self v (by omega)
  |succ t =>
   have:=ih (cur:=cur.setIfInBounds o v) (o:=o+1) (t:=t) (by omega) (by simp;omega)
   rw [show o+(t+1)=o+1+t by omega,this];rfl
theorem heap_cells_self {w:World} {g:Nat} {T:TypeId} {cur:Array Value} (o:Nat) (vs:List Value) (h:w.heap[g]?=some (.cells cur T (0,0))):(w.setCells g o vs).heap[g]?=some (.cells (laid cur o vs) T (0,0)):=by
 induction vs generalizing w cur o with
 |nil=>exact h
 |cons v r ih=>exact ih (o+1) (heap_setCell_same w g o _ _ _ h)
theorem heap_cells {w:World} {g b:Nat} (o:Nat) (vs:List Value) (h:b≠g):(w.setCells g o vs).heap[b]?=w.heap[b]?:=by
 induction vs generalizing w o with
 |nil=>rfl
 |cons v r ih=>exact (ih (o+1)).trans (Below.heap_setCell _ _ _ _ h)
theorem size_cells (w:World) (g o:Nat) (vs:List Value):(w.setCells g o vs).heap.size=w.heap.size:=by
 induction vs generalizing w o with
 |nil=>rfl
 |cons v r ih=>exact (ih _ _).trans (by simp [World.setCell])
theorem below_cells {B:Nat} {w0 w:World} {g:Nat} (hb:Below B w0 w) (h:B≤g) (o:Nat) (vs:List Value):Below B w0 (w.setCells g o vs):=by
 induction vs generalizing w o with
 |nil=>exact hb
 |cons v r ih=>exact ih (hb.setCell (p:=⟨g,o,none⟩) h _) (o+1)
theorem row_cell {w:World} {S:Nat→Prop} {cur:Array Value} {fs:List FileD} (h:RowAt w S cur fs) {k:Nat} (hk:k < fs.length * 3):∃ v,cur[k]?=some v∧v.oneCell'=true:=by
 have hj:k / 3 < fs.length:=by omega
 obtain ⟨v,⟨c0,c1,c2,_⟩,A,n,c,rfl,_⟩:=h (k / 3) _ (List.getElem?_eq_getElem hj)
 have e:k=k / 3 * 3+k % 3:=by omega
 have hm:k % 3 < 3:=by omega
 rcases (show k % 3=0∨k % 3=1∨k % 3=2 by omega) with h1 | h1 | h1
 ·exact ⟨_,by rw [e,h1];exact c0,rfl⟩
 ·exact ⟨_,by rw [e,h1];exact c1,rfl⟩
 ·exact ⟨_,by rw [e,h1];exact c2,rfl⟩
def cellsFrom (cur:Array Value) (i m:Nat):List Value:=(cur.toList.drop (i * 3)).take (m * 3)
theorem from_len {cur:Array Value} {i m:Nat} (h:(i+m) * 3≤cur.size):(cellsFrom cur i m).length=m * 3:=by
 unfold cellsFrom
 rw [List.length_take,List.length_drop,Array.length_toList]
 omega
theorem from_get {cur:Array Value} {i m t:Nat} (h:t < m * 3):(cellsFrom cur i m)[t]?=cur[i * 3+t]?:=by
 unfold cellsFrom
 rw [List.getElem?_take,if_pos h,List.getElem?_drop,Array.getElem?_toList]
theorem from_one {w:World} {S:Nat→Prop} {cur:Array Value} {fs:List FileD} (h:RowAt w S cur fs) {i m:Nat} (hm:i+m≤fs.length):∀ u ∈ cellsFrom cur i m,u.oneCell'=true:=fun u hu=>by
 obtain ⟨t,ht,rfl⟩:=List.getElem_of_mem hu
 have ht3:t < m * 3:=by unfold cellsFrom at ht;rw [List.length_take] at ht;omega
 have e:=from_get (cur:=cur) (i:=i) ht3
 rw [List.getElem?_eq_getElem ht] at e
 obtain ⟨v,h1,h2⟩:=row_cell h (k:=i * 3+t) (by omega)
 rw [h1] at e
 injection e with e
 rw [e];exact h2
abbrev zeroFile:List Value:=[.string ⟨#[]⟩,.slice none 0 0,.int .i64 0]
theorem FileCells.move {cur cur' : Array Value} {j k:Nat} {f:FileD} {v:Value} (h:FileCells cur j f v) (hm:∀ q,q < 3→cur'[k * 3+q]?=cur[j * 3+q]?):FileCells cur' k f v :=
 ⟨(hm 0 (by omega)).trans h.1,(hm 1 (by omega)).trans h.2.1,(hm 2 (by omega)).trans h.2.2.1,h.2.2.2⟩
theorem RowAt.less {w w' : World} {S:Nat→Prop} {cur cur' : Array Value} {fs:List FileD} {i m:Nat} (h:RowAt w S cur fs) (hal:Alike S w w') (hn:fs.length=i+1+m)
  (h1:∀ k,k < i * 3→cur'[k]?=cur[k]?) (h2:∀ t,t < m * 3→cur'[i * 3+t]?=cur[(i+1) * 3+t]?):RowAt w' S cur' (fs.eraseIdx i):=fun j f hj=>by
 rw [List.getElem?_eraseIdx] at hj
 by_cases hji:j < i
 ·rw [if_pos hji] at hj
  obtain ⟨v,k1,k2⟩:=h j f hj
  exact ⟨v,k1.move fun q hq=>h1 _ (by omega),k2.keep hal (fun _ h=>h)⟩
 ·rw [if_neg hji] at hj
  obtain ⟨v,k1,k2⟩:=h (j+1) f hj
  have hl:=(List.getElem?_eq_some_iff.1 hj).1
  refine ⟨v,k1.move fun q hq=>?_,k2.keep hal (fun _ h=>h)⟩
  have:=h2 ((j - i) * 3+q) (by omega)
  rw [show i * 3+((j - i) * 3+q)=j * 3+q by omega,show (i+1) * 3+((j - i) * 3+q)=(j+1) * 3+q by omega] at this
  exact this
theorem RowAt.more {w w' : World} {S S' : Nat→Prop} {cur cur' : Array Value} {fs:List FileD} {i m:Nat} {f0:FileD} {v0:Value} (h:RowAt w S cur fs) (hal:Alike S w w') (hS:∀ b,S b→S' b) (hn:fs.length=i+m)
  (h1:∀ k,k < i * 3→cur'[k]?=cur[k]?) (h2:∀ t,t < m * 3→cur'[(i+1) * 3+t]?=cur[i * 3+t]?) (h0:FileCells cur' i f0 v0) (hd:rdData w' S' v0 f0.data):RowAt w' S' cur' (fs.take i++f0 :: fs.drop i):=fun j f hj=>by
 have hti:(fs.take i).length=i:=by rw [List.length_take];omega
 rcases Nat.lt_trichotomy j i with hji | hji | hji
 ·rw [List.getElem?_append_left (by omega),List.getElem?_take,if_pos hji] at hj
  obtain ⟨v,k1,k2⟩:=h j f hj
  exact ⟨v,k1.move fun q hq=>h1 _ (by omega),k2.keep hal hS⟩
 ·subst hji
  rw [List.getElem?_append_right (by omega),hti,Nat.sub_self] at hj
  simp at hj
  subst hj
  exact ⟨v0,h0,hd⟩
 ·obtain ⟨t,rfl⟩:∃ t,j=i+1+t:=⟨j - i - 1,by omega⟩
  rw [List.getElem?_append_right (by omega),hti,show i+1+t - i=t+1 by omega,List.getElem?_cons_succ,List.getElem?_drop] at hj
  obtain ⟨v,k1,k2⟩:=h (i+t) f hj
  have hl:=(List.getElem?_eq_some_iff.1 hj).1
  refine ⟨v,k1.move fun q hq=>?_,k2.keep hal hS⟩
  have:=h2 (t * 3+q) (by omega)
  rw [show (i+1) * 3+(t * 3+q)=(i+1+t) * 3+q by omega,show i * 3+(t * 3+q)=(i+t) * 3+q by omega] at this
  exact this
end Go.Proofs.YtalhdalinpdanaaGreatDoor
end
section
namespace Go.Proofs.YtalhdalinpdanaaGreatDoor
set_option maxRecDepth 20000
open Go.RowKit
structure DoD where
 kind:Nat
 file:Nat
 to:Nat
 n:Nat
 data:List Nat
def rdDo:Rd DoD:=fun w S cs d => ∃ A n c,cs=[.int .u8 (d.kind:Int),.int .u8 (d.file:Int),.int .u8 (d.to:Int),.int .u8 (d.n:Int),.slice A n c]∧d.kind < 256∧d.file < 256∧d.to < 256∧d.n < 256∧BysIn w S A d.data∧d.data.length=n∧n≤c∧c≤maxLen
theorem keeps_do:Keeps rdDo:=fun _ _ _ _ _ _ ⟨A,n,c,e,h1,h2,h3,h4,h5,r⟩ hc hS=>⟨A,n,c,e,h1,h2,h3,h4,IntsIn.keep h5 hc hS,r⟩
abbrev DosIn (w:World) (S:Nat→Prop) (A:Option Addr) (ds:List DoD):Prop:=Elems rdDo 5 w S A ds
theorem DosIn.below {S:Nat→Prop} {B:Nat} {w w' : World} {A:Option Addr} {ds:List DoD} (h:DosIn w S A ds) (hS:∀ b,S b→b < B) (hb:Below B w w'):DosIn w' S A ds:=Elems.keep keeps_do h (below_alikeS hb hS) (fun _ h=>h)
theorem DosIn.at_ {w:World} {S:Nat→Prop} {A:Option Addr} {ds:List DoD} (h:DosIn w S A ds) {j:Nat} (hj:j < ds.length) :
  ∃ b off d A' n c,A=some ⟨b,off,none⟩∧S b∧Hid (ds[j]?=some d)∧w.cell? ⟨b,off+j * 5,none⟩=some (.int .u8 (d.kind:Int))∧w.cell? ⟨b,off+j * 5+1,none⟩=some (.int .u8 (d.file:Int))∧w.cell? ⟨b,off+j * 5+2,none⟩=some (.int .u8 (d.to:Int))∧w.cell? ⟨b,off+j * 5+3,none⟩=some (.int .u8 (d.n:Int))∧w.cell? ⟨b,off+j * 5+4,none⟩=some (.slice A' n c) ∧
   d.kind < 256∧d.file < 256∧d.to < 256∧d.n < 256∧BysIn w S A' d.data∧Hid (d.data.length=n)∧n≤c∧c≤maxLen:=by
 obtain ⟨b,off,e,hb,hc⟩:=h (by omega)
 obtain ⟨cs,hl,hcs,A',n,c,rfl,h1,h2,h3,h4,h5,h6,h7⟩:=hc j ds[j] (List.getElem?_eq_getElem hj)
 exact ⟨b,off,ds[j],A',n,c,e,hb,Lib.hid (List.getElem?_eq_getElem hj),hcs 0 _ rfl,hcs 1 _ rfl,hcs 2 _ rfl,hcs 3 _ rfl,hcs 4 _ rfl,h1,h2,h3,h4,h5,Lib.hid h6,h7⟩
end Go.Proofs.YtalhdalinpdanaaGreatDoor
end
section
namespace Go.Proofs.YtalhdalinpdanaaGreatDoor.frame
set_option maxRecDepth 20000
open Go.RowKit Go.Proofs.YtalhdalinpdanaaGreatDoor
theorem retB {a b:Bool} (h:a=b):Ending.returned (.bool a) = .returned (.bool b):=by rw [h]
theorem ret64 {a b:Nat} (h:a=b):Ending.returned (.int .u64 (a:Int)) = .returned (.int .u64 (b:Int)):=by rw [h]
theorem retS {A:Option Addr} {n m c:Nat} (h:n=m):Ending.returned (.slice A n c) = .returned (.slice A m c):=by rw [h]
theorem reti {a b:Int} (h:a=b):Ending.returned (.int .i64 a) = .returned (.int .i64 b):=by rw [h]
def fc (f:Fr):Array Value:=#[.int .i64 f.e,.int .i64 f.l,.int .i64 f.k,.int .i64 f.b0,.int .i64 f.b1,.int .i64 f.b2,.int .i64 f.b3,.int .i64 f.b4,.int .i64 f.b5]
theorem or64 (r c:Nat) (hr:r < 72057594037927936) (hc:c < 256):bits .or .u64 ((r:Int) * 256) (c:Int)=((r * 256+c:Nat):Int):=by
 have h:=u64_or_nat (r * 256) c (by omega) (by omega)
 have e:r * 256 ||| c=r * 256+c:=by
  have:=Nat.two_pow_add_eq_or_of_lt (i:=8) (a:=r) (b:=c) (by simpa using hc)
  rw [show 2 ^ 8 * r=r * 256 by omega] at this
  exact this.symm
 rw [e] at h
 simpa using h
theorem right_any (f:Fr) (w:World):Calls Tryz.prog 128 #[.agg (fc f)] w fun e w'=>e = .returned (.bool (right f))∧Below w.heap.size w w':=by
 obtain ⟨e,l,k,b0,b1,b2,b3,b4,b5⟩:=f
 have hc:∃ r,Hid (right ⟨e,l,k,b0,b1,b2,b3,b4,b5⟩=r)∧((e < 1∧r=false)∨(1≤e∧1000000 < e∧r=false)∨(1≤e∧e≤1000000∧l < 1∧r=false)∨(1≤e∧e≤1000000∧1≤l∧1000000000 < l∧r=false) ∨
   (1≤e∧e≤1000000∧1≤l∧l≤1000000000∧k < 1∧r=false)∨(1≤e∧e≤1000000∧1≤l∧l≤1000000000∧1≤k∧6 < k∧r=false)∨(1≤e∧e≤1000000∧1≤l∧l≤1000000000∧1≤k∧k≤6∧r=true)):=by
  refine ⟨_,Lib.hid rfl,?_⟩
  simp only [right,decide_eq_false_iff_not,decide_eq_true_eq]
  omega
 obtain ⟨r,HR,hc⟩:=hc
 show Calls Tryz.prog 128 #[.agg #[.int .i64 e,.int .i64 l,.int .i64 k,.int .i64 b0,.int .i64 b1,.int .i64 b2,.int .i64 b3,.int .i64 b4,.int .i64 b5]] w _
 rw [HR.out]
 rcases hc with ⟨h1,rfl⟩ | ⟨h1,h2,rfl⟩ | ⟨h1,h2,h3,rfl⟩ | ⟨h1,h2,h3,h4,rfl⟩ | ⟨h1,h2,h3,h4,h5,rfl⟩ | ⟨h1,h2,h3,h4,h5,h6,rfl⟩ | ⟨h1,h2,h3,h4,h5,h6,rfl⟩
 all_goals
  clear HR
  go_enter Tryz.func128,Tryz.ntmps128
  go_wp2
  go_ret
  exact ⟨retB (by first | rfl | (simp;omega)),(Below.refl _ _).alloc (Nat.le_refl _) _⟩
theorem number_any (A:Option Addr) (n cap B:Nat) (bs:List Nat) (w:World) (hx:Bys w B A bs) (hn:bs.length=n) (h8:n≤8) :
  Calls Tryz.prog 150 #[.slice A n cap] w fun e w'=>e = .returned (.int .u64 ((num bs:Nat):Int))∧w=w':=by
 have HN:Hid (bs.length=n):=Lib.hid hn
 have hlt:=hx.lt
 clear hn
 go_enter Tryz.func150,Tryz.ntmps150
 go_wp2
 go_loop [3,8] (fun t i => ∃ k r:Nat,k≤n∧i = .int .i64 k∧t = .int .u64 (r:Int)∧Hid (num (bs.take k)=r)) (fun _ i=>n - (intOf i).toNat)
 case atStart=>exact ⟨0,0,Nat.zero_le _,rfl,rfl,Lib.hid (by simp [num])⟩
 case round =>
  obtain ⟨k,r,hk,rfl,rfl,HT⟩:=hrel
  by_cases hlt' : k < n
  ·obtain ⟨b,off,c,rfl,hb,HX,hc,hcl⟩:=hx.at_ (j:=k) (by rw [HN.out];exact hlt')
   have hr:r < 72057594037927936:=by
    have h1:=num_lt (bs.take k) (fun b hb=>hlt b (List.mem_of_mem_take hb))
    have h2:(256:Nat) ^ (bs.take k).length≤256 ^ 7:=Nat.pow_le_pow_right (by omega) (by rw [List.length_take];omega)
    have h3:(256:Nat) ^ 7=72057594037927936:=by decide
    rw [HT.out] at h1
    omega
   have e1:=or64 r c hr hcl
   have HS:Hid (num (bs.take (k+1))=r * 256+c):=Lib.hid (by
    rw [List.take_add_one,HX.out]
    simp only [Option.toList_some]
    rw [num_snoc,HT.out])
   clear hlt
   go_wp2
   go_round
   case rel=>exact ⟨k+1,_,by omega,by go_num,rfl,HS⟩
   case measure=>first | (simp [intOf];done) | (simp [intOf];omega)
  ·have HE:Hid (num bs=r):=Lib.hid (by rw [← HT.out,List.take_of_length_le (by rw [HN.out];omega)])
   clear hlt
   go_wp2
   go_ret
   exact ⟨ret64 HE.out.symm,rfl⟩
def putk (xs:List Nat) (a n v k:Nat):List Nat:=xs.take (a+(n - k))++be k v++xs.drop (a+n)
def spl (xs:List Nat) (a n v:Nat):List Nat:=xs.take a++be n v++xs.drop (a+n)
theorem putk_zero (xs:List Nat) (a n v:Nat):putk xs a n v 0=xs:=by
 unfold putk;simp [be]
theorem putk_all (xs:List Nat) (a n v:Nat):putk xs a n v n=spl xs a n v:=by
 unfold putk spl;simp
theorem putk_step (xs:List Nat) (a n v k:Nat) (hk:k < n) (hn:a+n≤xs.length):(putk xs a n v k).set (a+(n - 1 - k)) (v / 256 ^ k % 256)=putk xs a n v (k+1):=by
 unfold putk
 have e:a+(n - k)=(a+(n - 1 - k))+1:=by omega
 have hl:(xs.take (a+(n - 1 - k))).length=a+(n - 1 - k):=by rw [List.length_take];omega
 rw [e,List.take_succ_eq_append_getElem (show a+(n - 1 - k) < xs.length by omega),List.append_assoc,List.append_assoc,List.set_append_right _ _ (by omega),hl,Nat.sub_self,show a+(n - (k+1))=a+(n - 1 - k) by omega]
 simp [be]
set_option maxHeartbeats 1000000 in
theorem put_any (g a n cap v base:Nat) (E:TypeId) (xs:List Nat) (N C:Nat) (w:World) (hown:OwnBys w base E (some ⟨g,0,none⟩) N C xs) (hg:base≤g) (hn:a+n≤N) (hN:N≤1000) (h8:n≤8) (hv:v < 18446744073709551616) :
  Calls Tryz.prog 129 #[.slice (some ⟨g,a,none⟩) n cap,.int .u64 (v:Int)] w fun e w'=>e = .returned (.tuple #[])∧OwnBys w' base E (some ⟨g,0,none⟩) N C (spl xs a n v)∧Below base w w'∧w'.heap.size=w.heap.size:=by
 have hl:=hown.len
 go_enter Tryz.func129,Tryz.ntmps129
 go_wp2
 go_loopw [7] (fun i wr => ∃ k:Nat,k≤n∧i = .int .i64 k∧OwnBys wr base E (some ⟨g,0,none⟩) N C (putk xs a n v k)∧Below base w wr∧Hid (wr.heap.size=w.heap.size)) (fun i _=>n - (intOf i).toNat)
 case atStart=>exact ⟨0,Nat.zero_le _,rfl,by rw [putk_zero];exact hown,Below.refl _ _,Lib.hid rfl⟩
 case round =>
  obtain ⟨k,hk,rfl,hown,hb,HS⟩:=hrel
  by_cases hlt:k < n
  ·obtain ⟨g',x,e',_,hgl,HX,hcell,hx,hfr⟩:=hown.at_ (j:=a+(n - 1 - k)) (by omega)
   simp only [Option.some.injEq,Addr.mk.injEq,and_true] at e'
   subst e'
   have hb2:v / 256 ^ k % 256 < 256:=Nat.mod_lt _ (by omega)
   have HB:Hid ((v:Int) / 2 ^ (8 * k) % 256=((v / 256 ^ k % 256:Nat):Int)):=Lib.hid (by
    rw [show (256:Nat)=2 ^ 8 from rfl,← Nat.pow_mul];simp)
   have hown2:OwnBys (wr.setCell ⟨g,a+(n - 1 - k),none⟩ (.int .u8 ((v / 256 ^ k % 256:Nat):Int))) base E (some ⟨g,0,none⟩) N C (putk xs a n v (k+1)):=by
    rw [← putk_step xs a n v k hlt (by omega)]
    exact hown.stored (a+(n - 1 - k)) hb2
   rw [← HB.out] at hown2
   go_wp2
   go_roundw
   case rel=>exact ⟨k+1,by omega,by go_num,hown2,hb.setCell (p:=⟨g,_,none⟩) hg _,Lib.hid (by rw [← HS.out];simp [World.setCell])⟩
   case measure=>first | (simp [intOf];done) | (simp [intOf];omega)
  ·obtain rfl:n=k:=by omega
   rw [putk_all] at hown
   go_wp2
   exact bodyPost_end (v:=.tuple #[]) (by simp [results,Tryz.results129,go_sem]) rfl ⟨rfl,hown,hb,HS.out⟩
theorem place_any (g q i cap:Nat) (w:World) (hi:i < 6) (hcap:72≤cap) (hcl:cap≤9223372036854775807) :
  Calls Tryz.prog 130 #[.slice (some ⟨g,q,none⟩) 72 cap,.int .i64 (i:Int)] w fun e w'=>e = .returned (.slice (some ⟨g,q+(20+8 * i),none⟩) 8 (cap - (20+8 * i)))∧w=w':=by
 go_enter Tryz.func130,Tryz.ntmps130
 go_wp2
 go_ret
 exact ⟨retS (by omega),rfl⟩
theorem place_is (g q i cap o c2:Nat) (z:Int) (w:World) (hz:z=(i:Int)) (ho:q+(20+8 * i)=o) (h2:cap - (20+8 * i)=c2) (hi:i < 6) (hcap:72≤cap) (hcl:cap≤9223372036854775807) :
  Calls Tryz.prog 130 #[.slice (some ⟨g,q,none⟩) 72 cap,.int .i64 z] w fun e w'=>e = .returned (.slice (some ⟨g,o,none⟩) 8 c2)∧w=w':=by
 subst hz ho h2;exact place_any g q i cap w hi hcap hcl
theorem checked_any (A:Option Addr) (cap B:Nat) (bs:List Nat) (s:Nat) (w:World) (hx:Bys w B A bs) (hB:B≤w.heap.size) (hn:bs.length=72) (hcap:72≤cap) (hcl:cap≤9223372036854775807) (hs:crc.more 0 (bs.take 68)=s) :
  Calls Tryz.prog 131 #[.slice A 72 cap] w fun e w'=>e = .returned (.agg #[.int .u8 ((s % 256:Nat):Int),.int .u8 ((s / 256 % 256:Nat):Int),.int .u8 ((s / 65536 % 256:Nat):Int),.int .u8 ((s / 16777216 % 256:Nat):Int)])∧Below w.heap.size w w':=by
 have hl:s < 4294967296:=by rw [← hs];exact crc.more_lt _ (by omega) (fun b hb=>by have:=hx.lt b (List.mem_of_mem_take hb);omega)
 have HS:=Lib.hid hs
 have HN:Hid ((bs.take 68).length=68):=Lib.hid (by rw [List.length_take];omega)
 clear hs hn
 go_enter Tryz.func131,Tryz.ntmps131
 go_wp2_with ((with_reducible refine (crc.sum_is _ 68 _ B (bs.take 68) s _ ((hx.take 68).below (((Below.refl _ _).alloc hB _))) HN.out (by omega) HS.out).mono ?_);rintro e w' ⟨rfl,rfl⟩)
 exact bodyPost_ret (v:=.agg #[.int .u8 ((s:Int) % 256),.int .u8 ((s:Int) / 256 % 256),.int .u8 ((s:Int) / 65536 % 256),.int .u8 ((s:Int) / 16777216)]) (by simp [results,Tryz.results131,go_sem]) rfl
  ⟨by rw [show ((s % 256:Nat):Int)=(s:Int) % 256 by omega,show ((s / 256 % 256:Nat):Int)=(s:Int) / 256 % 256 by omega,show ((s / 65536 % 256:Nat):Int)=(s:Int) / 65536 % 256 by omega,show ((s / 16777216 % 256:Nat):Int)=(s:Int) / 16777216 by omega],(Below.refl _ _).alloc (Nat.le_refl _) _⟩
end Go.Proofs.YtalhdalinpdanaaGreatDoor.frame
end
section
namespace Go.Proofs.YtalhdalinpdanaaGreatDoor.disk
set_option maxRecDepth 20000
open Go.RowKit
attribute [local go_sem] undef
theorem OwnInts.cap {w:World} {base n c:Nat} {e:TypeId} {k:IntKind} {A:Option Addr} {xs:List Int} (h:OwnInts w base e k A n c xs):n≤c∧c≤maxLen:=by
 rcases h.1.2 with ⟨hv,h0⟩ | ⟨g,cap,cur,hv,_,_,h2,h3,_⟩
 ·simp only [Value.slice.injEq] at hv
  obtain ⟨_,rfl,rfl⟩:=hv
  exact ⟨Nat.le_refl _,by unfold maxLen;omega⟩
 ·simp only [Value.slice.injEq,true_and] at hv
  obtain ⟨_,rfl⟩:=hv
  exact ⟨h2,h3⟩
def Kept (w w1 wx:World) (D:Array Value) (f0 f1 f2:Value):Prop:=Below w.heap.size w wx∧w1.heap.size < wx.heap.size∧wx.heap[w.heap.size]?=some (.cells D 27 (0,0))∧wx.heap[w.heap.size+1]?=some (.cells #[.slice none 0 0,.int .i64 0,.int .i64 0,.bool false] 27 (0,0))∧wx.heap[w1.heap.size]?=some (.cells #[f0,f1,f2] 79 (0,0))
end Go.Proofs.YtalhdalinpdanaaGreatDoor.disk
end
