/-
  DiskRef7, Frame
-/
import Derived.Test.YtlipgnenbdchmaaMsg17
import Derived.Test.YtlipgnenbdchmaaMsg19
import Derived.Test.YtlipgnenbdchmaaMsg24
set_option linter.unusedVariables false
set_option linter.unusedSimpArgs false
section
namespace Go.Proofs.Ytlipgnenbdchmaa.disk
set_option maxRecDepth 20000
open Go.RowKit
def RetOp (S:Nat→Prop) (w:World) (r:DiskD × Int) (e:Ending) (w' : World):Prop :=
 ∃ A n c,e = .returned (.tuple #[.agg #[.slice A n c,.int .i64 r.1.room,.int .i64 r.1.fuse,.bool r.1.down],.int .i64 r.2])∧FilesIn w' (Out S w w') A r.1.files∧Hid (r.1.files.length=n)∧n≤c∧c≤maxLen∧Below w.heap.size w w'
def RetBytes (S:Nat→Prop) (w:World) (r:List Nat × Int) (e:Ending) (w' : World):Prop :=
 ∃ A n c,e = .returned (.tuple #[.slice A n c,.int .i64 r.2])∧BysIn w' (Out S w w') A r.1∧Hid (r.1.length=n)∧n≤c∧c≤maxLen∧Below w.heap.size w w'
theorem rfind_is (A:Option Addr) (n c B:Nat) (room fuse:Int) (down:Bool) (nm:ByteArray) (fs:List FileD) (x:Int) (w:World) (hB:B≤w.heap.size) (hf:Files w B A fs) (hn:fs.length=n) (hc:n≤maxLen) (h:findI fs nm=x) :
  Calls Try.prog 35 #[.agg #[.slice A n c,.int .i64 room,.int .i64 fuse,.bool down],.string nm] w fun e w'=>e = .returned (.int .i64 x)∧Below w.heap.size w w':=by
 rw [← h];exact rfind A n c room fuse down nm fs w (hf.more hB) hn hc
theorem rused_is (A:Option Addr) (n c B:Nat) (room fuse:Int) (down:Bool) (fs:List FileD) (u:Nat) (w:World) (hB:B≤w.heap.size) (hf:Files w B A fs) (hn:fs.length=n) (hc:n≤maxLen) (hu:used fs=u) (hu2:u≤9223372036854775807) :
  Calls Try.prog 58 #[.agg #[.slice A n c,.int .i64 room,.int .i64 fuse,.bool down]] w fun e w'=>e = .returned (.int .i64 (u:Nat))∧Below w.heap.size w w':=by
 rw [← hu];exact rused A n c room fuse down fs w (hf.more hB) hn hc (by rw [hu];exact hu2)
theorem op_first {d:DiskD} {a b:ByteArray} {pre x:Int} {fs:List FileD} {app:Bool} (h:firstE d a b=x) (hx:x≠0):opD d a b pre fs app=(d,x):=by unfold opD;rw [h,if_pos hx]
theorem op_pre {d:DiskD} {a b:ByteArray} {pre y:Int} {fs:List FileD} {app:Bool} (h:firstE d a b=0) (hp:pre=y) (hy:y≠0):opD d a b pre fs app=(d,y):=by unfold opD;rw [h,if_neg (by simp),hp,if_pos hy]
theorem op_down {d:DiskD} {a b:ByteArray} {pre:Int} {fs:List FileD} {app:Bool} (h:firstE d a b=0) (hp:pre=0) (hf:d.fuse=0):opD d a b pre fs app=(⟨if app then fs else d.files,d.room,0,true⟩,9):=by
 unfold opD;rw [h,if_neg (by simp),hp,if_neg (by simp),if_pos hf,hf]
theorem op_done {d:DiskD} {a b:ByteArray} {pre f2:Int} {fs:List FileD} {app:Bool} (h:firstE d a b=0) (hp:pre=0) (hf:d.fuse≠0) (h2:(if 0 < d.fuse then d.fuse - 1 else d.fuse)=f2):opD d a b pre fs app=(⟨fs,d.room,f2,d.down⟩,0):=by
 unfold opD;rw [h,if_neg (by simp),hp,if_neg (by simp),if_neg hf,h2]
theorem power_on {fuse f2:Int} {down:Bool} (hf:fuse≠0) (h2:(if 0 < fuse then fuse - 1 else fuse)=f2):(fuse=0∧f2=0∧down=true∧true=false)∨(0 < fuse∧f2=fuse - 1∧down=down∧true=true)∨(fuse < 0∧f2=fuse∧down=down∧true=true):=by
 by_cases h:0 < fuse
 ·rw [if_pos h] at h2;exact .inr (.inl ⟨h,h2.symm,rfl,rfl⟩)
 ·rw [if_neg h] at h2;exact .inr (.inr ⟨by omega,h2.symm,rfl,rfl⟩)
theorem power_off {fuse:Int} {down:Bool} (hf:fuse=0):(fuse=0∧(0:Int)=0∧true=true∧false=false)∨(0 < fuse∧(0:Int)=fuse - 1∧true=down∧false=true)∨(fuse < 0∧(0:Int)=fuse∧true=down∧false=true):=.inl ⟨hf,rfl,rfl,rfl⟩
theorem files_store {S:Nat→Prop} {w w3 w4:World} {g:Nat} {A:Option Addr} {fs:List FileD} (h:FilesIn w4 (Out S w3 w4) A fs) (hS:∀ b,S b→b < w.heap.size) (h1:w.heap.size≤g) (h3:g < w3.heap.size) (v0 v1 v2 v3:Value) :
  FilesIn ((((w4.setCell ⟨g,0,none⟩ v0).setCell ⟨g,1,none⟩ v1).setCell ⟨g,2,none⟩ v2).setCell ⟨g,3,none⟩ v3) (Out S w ((((w4.setCell ⟨g,0,none⟩ v0).setCell ⟨g,1,none⟩ v1).setCell ⟨g,2,none⟩ v2).setCell ⟨g,3,none⟩ v3)) A fs:=by
 refine Elems.keep keeps_file h (alike_set4 (fun hn=>?_) _ _ _ _) (Out.widen (by omega) (by rw [size_set4];exact Nat.le_refl _))
 rcases hn with hn | hn
 ·have:=hS g hn;omega
 ·omega
theorem files_old {S:Nat→Prop} {w w' : World} {A:Option Addr} {fs:List FileD} (h:FilesIn w S A fs) (hS:∀ b,S b→b < w.heap.size) (hb:Below w.heap.size w w'):FilesIn w' (Out S w w') A fs:=(h.below hS hb).more Out.mk
theorem size_set4a (w:World) (g:Nat) (v0 v1 v2 v3:Value) (o:Obj):(((((w.setCell ⟨g,0,none⟩ v0).setCell ⟨g,1,none⟩ v1).setCell ⟨g,2,none⟩ v2).setCell ⟨g,3,none⟩ v3).alloc o).heap.size=w.heap.size+1:=by simp [World.setCell]
theorem files_keep {S T:Nat→Prop} {w w4:World} {g:Nat} {A:Option Addr} {fs:List FileD} (h:FilesIn w4 T A fs) (hT:∀ b,T b→b≠g∧(S b∨(w.heap.size≤b∧b < w4.heap.size))) (v0 v1 v2 v3:Value) :
  FilesIn ((((w4.setCell ⟨g,0,none⟩ v0).setCell ⟨g,1,none⟩ v1).setCell ⟨g,2,none⟩ v2).setCell ⟨g,3,none⟩ v3) (Out S w ((((w4.setCell ⟨g,0,none⟩ v0).setCell ⟨g,1,none⟩ v1).setCell ⟨g,2,none⟩ v2).setCell ⟨g,3,none⟩ v3)) A fs :=
 Elems.keep keeps_file h (alike_set4 (fun hn=>(hT g hn).1 rfl) _ _ _ _) (fun b hb=>by
  rcases (hT b hb).2 with h | h
  ·exact .inl h
  ·exact .inr (by rw [size_set4];exact h))
end Go.Proofs.Ytlipgnenbdchmaa.disk
end
section
namespace Go.Proofs.Ytlipgnenbdchmaa
set_option maxRecDepth 20000
open Go.RowKit
structure DFr (T:TypeId) (w w1 W:World) (d0 d1 d2 d3 r0 r1 r2 r3:Value):Prop where
 low:Below w.heap.size w W
 box:W.heap[w.heap.size]?=some (.cells #[d0,d1,d2,d3] T (0,0))
 res:W.heap[w.heap.size+1]?=some (.cells #[r0,r1,r2,r3] T (0,0))
 size:w1.heap.size≤W.heap.size
 two:w.heap.size+2≤w1.heap.size
 same:∀ b,w.heap.size+2≤b→b < w1.heap.size→W.heap[b]?=w1.heap[b]?
section
variable {T TF:TypeId} {w w1 W W' : World} {d0 d1 d2 d3 r0 r1 r2 r3:Value} {A:Option Addr} {n c:Nat} {fs:List FileD} {S S1:Nat→Prop}
theorem DFr.below (h:DFr T w w1 W d0 d1 d2 d3 r0 r1 r2 r3) (hb:Below W.heap.size W W'):DFr T w w1 W' d0 d1 d2 d3 r0 r1 r2 r3:=by
 have h1:=h.size
 have h2:=h.two
 have h3:=hb.size
 exact ⟨h.low.trans (hb.mono (by omega)),(hb.block _ (by omega)).trans h.box,(hb.block _ (by omega)).trans h.res,by omega,h2,fun b g1 g2=>(hb.block b (by omega)).trans (h.same b g1 g2)⟩
theorem DFr.setBox (h:DFr T w w1 W d0 d1 d2 d3 r0 r1 r2 r3) (v0 v1 v2 v3:Value):DFr T w w1 ((((W.setCell ⟨w.heap.size,0,none⟩ v0).setCell ⟨w.heap.size,1,none⟩ v1).setCell ⟨w.heap.size,2,none⟩ v2).setCell ⟨w.heap.size,3,none⟩ v3) v0 v1 v2 v3 r0 r1 r2 r3 :=
 ⟨below_set4 h.low (Nat.le_refl _) _ _ _ _,heap_set4_self _ _ _ _ h.box,(heap_set4 _ _ _ _ (by omega)).trans h.res,by rw [size_set4];exact h.size,h.two,fun b g1 g2=>(heap_set4 _ _ _ _ (by omega)).trans (h.same b g1 g2)⟩
theorem DFr.setRes (h:DFr T w w1 W d0 d1 d2 d3 r0 r1 r2 r3) (v0 v1 v2 v3:Value):DFr T w w1 ((((W.setCell ⟨w.heap.size+1,0,none⟩ v0).setCell ⟨w.heap.size+1,1,none⟩ v1).setCell ⟨w.heap.size+1,2,none⟩ v2).setCell ⟨w.heap.size+1,3,none⟩ v3) d0 d1 d2 d3 v0 v1 v2 v3 :=
 ⟨below_set4 h.low (by omega) _ _ _ _,(heap_set4 _ _ _ _ (by omega)).trans h.box,heap_set4_self _ _ _ _ h.res,by rw [size_set4];exact h.size,h.two,fun b g1 g2=>(heap_set4 _ _ _ _ (by omega)).trans (h.same b g1 g2)⟩
theorem DFr.set0 (h:DFr T w w1 W d0 d1 d2 d3 r0 r1 r2 r3) (v:Value):DFr T w w1 (W.setCell ⟨w.heap.size,0,none⟩ v) v d1 d2 d3 r0 r1 r2 r3 :=
 ⟨h.low.setCell (p:=⟨w.heap.size,0,none⟩) (Nat.le_refl _) _,heap_setCell_same _ _ 0 _ _ _ h.box,(Below.heap_setCell _ _ _ _ (by show w.heap.size+1≠w.heap.size;omega)).trans h.res,by simpa [World.setCell] using h.size,h.two,fun b g1 g2=>(Below.heap_setCell _ _ _ _ (by show b≠w.heap.size;omega)).trans (h.same b g1 g2)⟩
theorem DFr.drew (h:DFr T w w1 W d0 d1 d2 d3 r0 r1 r2 r3):DFr T w w1 W.drew d0 d1 d2 d3 r0 r1 r2 r3:=⟨h.low.drew,h.box,h.res,h.size,h.two,h.same⟩
theorem DFr.drewN (h:DFr T w w1 W d0 d1 d2 d3 r0 r1 r2 r3) (m:Nat):DFr T w w1 (W.drewN m) d0 d1 d2 d3 r0 r1 r2 r3:=⟨below_drewN h.low m,h.box,h.res,h.size,h.two,h.same⟩
theorem DFr.rebase (h:DFr T w w1 W d0 d1 d2 d3 r0 r1 r2 r3):DFr T w W W d0 d1 d2 d3 r0 r1 r2 r3 :=
 ⟨h.low,h.box,h.res,Nat.le_refl _,by have:=h.size;have:=h.two;omega,fun _ _ _=>rfl⟩
theorem DFr.setOwn (h:DFr T w w1 W d0 d1 d2 d3 r0 r1 r2 r3) {g i:Nat} (hg:w.heap.size+2≤g) (v:Value):DFr T w (W.setCell ⟨g,i,none⟩ v) (W.setCell ⟨g,i,none⟩ v) d0 d1 d2 d3 r0 r1 r2 r3 :=
 ⟨h.low.setCell (p:=⟨g,i,none⟩) (by show w.heap.size≤g;omega) _,(Below.heap_setCell _ _ _ _ (by show w.heap.size≠g;omega)).trans h.box,(Below.heap_setCell _ _ _ _ (by show w.heap.size+1≠g;omega)).trans h.res,Nat.le_refl _,by have:=h.size;have:=h.two;simp [World.setCell];omega,fun _ _ _=>rfl⟩
theorem DFr.other (h:DFr T w w1 W d0 d1 d2 d3 r0 r1 r2 r3) (hb:Below (w.heap.size+2) W W'):DFr T w W' W' d0 d1 d2 d3 r0 r1 r2 r3:=by
 have h1:=h.size
 have h2:=h.two
 have h3:=hb.size
 exact ⟨h.low.trans (hb.mono (by omega)),(hb.block _ (by omega)).trans h.box,(hb.block _ (by omega)).trans h.res,Nat.le_refl _,by omega,fun _ _ _=>rfl⟩
theorem DFr.cells (h:DFr T w w1 W d0 d1 d2 d3 r0 r1 r2 r3):W.cell? ⟨w.heap.size,0,none⟩=some d0∧W.cell? ⟨w.heap.size,1,none⟩=some d1∧W.cell? ⟨w.heap.size,2,none⟩=some d2∧W.cell? ⟨w.heap.size,3,none⟩=some d3 ∧
  W.cell? ⟨w.heap.size+1,0,none⟩=some r0∧W.cell? ⟨w.heap.size+1,1,none⟩=some r1∧W.cell? ⟨w.heap.size+1,2,none⟩=some r2∧W.cell? ⟨w.heap.size+1,3,none⟩=some r3 ∧
  W.frozen? ⟨w.heap.size,0,none⟩=false∧W.frozen? ⟨w.heap.size,1,none⟩=false∧W.frozen? ⟨w.heap.size,2,none⟩=false∧W.frozen? ⟨w.heap.size,3,none⟩=false ∧
  W.frozen? ⟨w.heap.size+1,0,none⟩=false∧W.frozen? ⟨w.heap.size+1,1,none⟩=false∧W.frozen? ⟨w.heap.size+1,2,none⟩=false∧W.frozen? ⟨w.heap.size+1,3,none⟩=false :=
 ⟨(block_cell h.box 0 _ rfl).1,(block_cell h.box 1 _ rfl).1,(block_cell h.box 2 _ rfl).1,(block_cell h.box 3 _ rfl).1,(block_cell h.res 0 _ rfl).1,(block_cell h.res 1 _ rfl).1,(block_cell h.res 2 _ rfl).1,(block_cell h.res 3 _ rfl).1,
  (block_cell h.box 0 _ rfl).2,(block_cell h.box 1 _ rfl).2,(block_cell h.box 2 _ rfl).2,(block_cell h.box 3 _ rfl).2,(block_cell h.res 0 _ rfl).2,(block_cell h.res 1 _ rfl).2,(block_cell h.res 2 _ rfl).2,(block_cell h.res 3 _ rfl).2⟩
theorem OwnF.block {base:Nat} {T:TypeId} (h:OwnF w base T S A n c fs):∀ g,A=some ⟨g,0,none⟩→base≤g∧g < w.heap.size:=fun g e=>by
 rcases h.2.2.2 with ⟨h1,_⟩ | ⟨g',cur,h1,h2,h3,_⟩
 ·rw [h1] at e;cases e
 ·rw [h1] at e
  rw [addr_eq e]
  refine ⟨h2,?_⟩
  rcases Nat.lt_or_ge g' w.heap.size with hl | hl
  ·exact hl
  ·rw [Array.getElem?_eq_none hl] at h3;cases h3
theorem DFr.own {base:Nat} (h:DFr T w w1 W d0 d1 d2 d3 r0 r1 r2 r3) (ho:OwnF w1 base TF S1 A n c fs) (hb:w.heap.size+2≤base) (hS:∀ b,S1 b→w.heap.size+2≤b∧b < w1.heap.size):OwnF W base TF S1 A n c fs :=
 ho.keep (fun g e=>by have:=ho.block g e;exact h.same g (by omega) this.2) (fun b o hSb=>World.cell?_of_block (h.same b (hS b hSb).1 (hS b hSb).2))
theorem OwnF.all {base:Nat} {T:TypeId} (h:OwnF w base T S A n c fs) (hS:∀ b,S b→b < w.heap.size):FilesIn w (Lt w.heap.size) A fs:=h.files hS (fun g e=>(h.block g e).2)
theorem DFr.ret {base:Nat} (h:DFr T w w1 W d0 d1 d2 d3 r0 r1 r2 r3) (ho:OwnF W base TF S1 A n c fs) (hb:w.heap.size≤base) (hS:∀ b,S1 b→w.heap.size≤b∧b < W.heap.size) (room fuse:Int) (down:Bool) (x:Int) :
  disk.RetOp S w (⟨fs,room,fuse,down⟩,x) (.returned (.tuple #[.agg #[.slice A n c,.int .i64 room,.int .i64 fuse,.bool down],.int .i64 x])) W :=
 ⟨A,n,c,rfl,ho.files (fun b hb'=>.inr (hS b hb')) (fun g e=>.inr (by have:=ho.block g e;omega)),Lib.hid ho.len,ho.cap.1,ho.cap.2,h.low⟩
theorem RowAt.set {cur cur' : Array Value} {k:Nat} {f' : FileD} {v:Value} (h:RowAt W S cur fs) (hc:Alike S W W') (hoff:∀ i,(i < k * 3∨k * 3+3≤i)→cur'[i]?=cur[i]?) (hk:FileCells cur' k f' v) (hd:rdData W' S v f'.data):RowAt W' S cur' (fs.set k f'):=fun j f hj=>by
 rw [List.getElem?_set] at hj
 by_cases e:k=j
 ·subst e
  rw [if_pos rfl] at hj
  by_cases hl:k < fs.length
  ·rw [if_pos hl] at hj
   injection hj with hj
   subst hj
   exact ⟨v,hk,hd⟩
  ·rw [if_neg hl] at hj;cases hj
 ·rw [if_neg e] at hj
  obtain ⟨u,⟨c0,c1,c2,c3⟩,d1⟩:=h j f hj
  exact ⟨u,⟨by rw [hoff _ (by omega)];exact c0,by rw [hoff _ (by omega)];exact c1,by rw [hoff _ (by omega)];exact c2,c3⟩,d1.keep hc (fun _ h=>h)⟩
end
end Go.Proofs.Ytlipgnenbdchmaa
end
