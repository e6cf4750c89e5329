/-
  DiskImpl5, DiskImpl6
-/
import Derived.Test.YtlipgnenbdchmaaMsg25
import Derived.BigQuiet
set_option linter.unusedVariables false
set_option linter.unusedSimpArgs false
section
namespace Go.Proofs.Ytlipgnenbdchmaa.disk
set_option maxRecDepth 20000
open Go.RowKit
theorem dclonef (A:Option Addr) (n c:Nat) (fs:List FileD) (S:Nat→Prop) (w:World) (hS:∀ b,S b→b < w.heap.size) (hf:FilesIn w S A fs) (hn:fs.length=n) (hbig:n≤1000000) (hc:c≤maxLen) :
  Calls Try.prog 59 #[.slice A n c] w fun e w' => ∃ A' c',e = .returned (.slice A' n c')∧OwnElems rdFile 3 w' w.heap.size 51 S A' n c' fs∧Below w.heap.size w w':=by
 have hinfo:Hid ((Try.prog.info? 51).map (fun i=>(i.zero,i.size,i.bytes))=some (some (.agg #[.string ⟨#[]⟩,.slice none 0 0,.int .i64 0]),3,48)):=Lib.hid (by kernel_rfl)
 have hb0:∀ o:Obj,Below w.heap.size w (w.alloc o):=fun o=>(Below.refl _ _).alloc (Nat.le_refl _) o
 have HB0:=Lib.hid hb0
 have HN:=Lib.hid hn
 have hX:∀ o:Obj,∃ css,Each rdFile 3 (w.alloc o) S css fs∧(0 < fs.length→∃ b off,A=some ⟨b,off,none⟩∧S b∧∀ j c,css.flatten[j]?=some c→(w.alloc o).cell? ⟨b,off+j,none⟩=some c):=fun o=>(hf.below hS (hb0 o)).each
 have hemp:OwnElems rdFile 3 (w.alloc (.cells #[] 51)) w.heap.size 51 S (some ⟨w.heap.size,0,none⟩) 0 0 ([]:List FileD) :=
  ⟨[],World.ownsRow_lit (base:=w.heap.size) (e:=51) (size:=3) w #[] 0 (Nat.le_refl _) (by unfold maxLen;omega) rfl,trivial,rfl⟩
 have HEMP:=Lib.hid hemp
 have HS:=Lib.hid hS
 have q22:∀ (w:World) (a:Option Addr) (n c n' c' : Nat),(binOp .eql 22 (.slice a n c) (.slice none n' c')).run Try.prog w = .ok (.bool a.isNone) w:=fun w a n c n' c'=>Lib.run_eql_slice_nil w _ _ a n c n' c' Try.underlying22
 cases A with
 |none =>
  have hfs:fs=[]:=by
   by_cases h:0 < fs.length
   ·obtain ⟨b,off,e,_⟩:=hf h;cases e
   ·exact List.eq_nil_of_length_eq_zero (by omega)
  subst hfs
  obtain rfl:0=n:=by simpa using hn
  clear hX hemp hS hf
  go_enter Try.func59,Try.ntmps59
  go_wp2
  refine bodyPost_ret (v:=.slice none 0 0) (by simp [results,Try.results59,go_sem]) rfl ?_
  exact ⟨none,0,rfl,OwnElems.nil,Below.refl _ _⟩
 |some a =>
  obtain ⟨css,k1,k2⟩:=hX (.cells #[] 51)
  have K1:=Lib.hid k1
  have K2:Hid (0 < n→∃ b off,(some a:Option Addr)=some ⟨b,off,none⟩∧∀ j c,css.flatten[j]?=some c→(w.alloc (.cells #[] 51)).cell? ⟨b,off+j,none⟩=some c):=Lib.hid (fun h=>by
   obtain ⟨b,off,e1,_,e2⟩:=k2 (by omega)
   exact ⟨b,off,e1,e2⟩)
  clear hX hemp hS hf k1 k2
  go_enter Try.func59,Try.ntmps59
  go_wp2_with (at_builtin;refine wpList_append_elems rfl (.tmp 5) (.tmp 6) _ rfl keeps_file leaf_file (by decide) w.heap.size 51 _ 48 Try.underlying22 hinfo.out rfl rfl HEMP.out rfl K1.out K2.out HN.out (fun _ h=>h) (fun b hb=>⟨by have:=HS.out b hb;simp;omega,by have:=HS.out b hb;simp [Value.ownBlock];omega⟩) (by unfold maxLen;omega) (by omega) (by simp) ?_;intro A5 c5 w5 hown5 hgr5 hat5;have hb5:Below w.heap.size w w5:=(HB0.out _).grown hgr5 (by simp) (by intro g hgg;simp [Value.ownBlock] at hgg;omega);clear hgr5 hat5;simp only [Nat.zero_add,List.nil_append] at hown5)
  refine bodyPost_ret (v:=.slice A5 n c5) (by simp [results,Try.results59,go_sem]) rfl ?_
  exact ⟨_,_,rfl,hown5,hb5⟩
def RetCopy (room fuse:Int) (down:Bool) (n:Nat) (fs:List FileD) (w:World) (e:Ending) (w' : World):Prop :=
 ∃ A c,∃ S:Nat→Prop,e = .returned (.agg #[.slice A n c,.int .i64 room,.int .i64 fuse,.bool down])∧OwnF w' w.heap.size 51 S A n c fs∧Apart w' w.heap.size 5 S A fs∧Hid (∀ b,S b→w.heap.size≤b∧b < w'.heap.size)∧Below w.heap.size w w'
set_option maxHeartbeats 6000000 in
theorem dcopied (A:Option Addr) (n c:Nat) (room fuse:Int) (down:Bool) (fs:List FileD) (S:Nat→Prop) (w:World) (hS:∀ b,S b→b < w.heap.size) (hf:FilesIn w S A fs) (hn:fs.length=n) (hnc:n≤c) (hcm:c≤maxLen) (hbig:n≤1000) (hlen:∀ f ∈ fs,f.data.length≤1000000000) :
  Calls Try.prog 39 #[.agg #[.slice A n c,.int .i64 room,.int .i64 fuse,.bool down]] w (RetCopy room fuse down n fs w):=by
 obtain ⟨k0,k1⟩:=two_blocks w #[.slice A n c,.int .i64 room,.int .i64 fuse,.bool down] #[.slice none 0 0,.int .i64 0,.int .i64 0,.bool false] 24 24
 have K0:=Lib.hid k0
 have K1:=Lib.hid k1
 clear k0 k1
 have hB:∀ o1 o2,Below w.heap.size w ((w.alloc o1).alloc o2):=fun o1 o2=>((Below.refl _ _).alloc (Nat.le_refl _) o1).alloc (by simp) o2
 have HB:=Lib.hid hB
 have HN:=Lib.hid hn
 have HS:=Lib.hid hS
 have HL:=Lib.hid hlen
 have HCF:Hid (∀ o1 o2,Calls Try.prog 59 #[.slice A n c] ((w.alloc o1).alloc o2) fun e w' => ∃ A' c',e = .returned (.slice A' n c')∧OwnElems rdFile 3 w' (w.heap.size+2) 51 S A' n c' fs∧Below (w.heap.size+2) ((w.alloc o1).alloc o2) w') :=
  Lib.hid (fun o1 o2=>by
   have h:=dclonef A n c fs S ((w.alloc o1).alloc o2) (fun b hb=>by have:=hS b hb;rw [size_two];omega) (hf.below hS (hB o1 o2)) hn (by omega) hcm
   rw [size_two] at h
   exact h)
 clear hB hf hn hlen hS
 go_enter Try.func39,Try.ntmps39
 go_wp2_with ((with_reducible refine (HCF.out _ _).mono ?_);rintro e w1 ⟨A1,c1,rfl,hown,hg1⟩;have hs1:w.heap.size+2≤w1.heap.size:=(by have:=hg1.size;rw [size_two] at this;exact this);have hgw1:=(HB.out _ _).trans (hg1.mono (by omega));have E0_1:=Lib.hid ((hg1.block w.heap.size (by omega)).trans K0.out);have E1_1:=Lib.hid ((hg1.block (w.heap.size+1) (by omega)).trans K1.out);obtain ⟨x0_1,f0_1⟩:=block_cell E0_1.out 0 _ rfl)
 have E0_2:Hid ((w1.setCell ⟨w.heap.size,0,none⟩ (.slice A1 n c1)).heap[w.heap.size]?=some (.cells #[.slice A1 n c1,.int .i64 room,.int .i64 fuse,.bool down] 24 (0,0))):=Lib.hid (heap_setCell_same w1 _ 0 _ _ _ E0_1.out)
 have E1_2:Hid ((w1.setCell ⟨w.heap.size,0,none⟩ (.slice A1 n c1)).heap[w.heap.size+1]?=some (.cells #[.slice none 0 0,.int .i64 0,.int .i64 0,.bool false] 24 (0,0))):=Lib.hid ((Below.heap_setCell _ _ _ _ (by show w.heap.size+1≠w.heap.size;omega)).trans E1_1.out)
 have HB2:Hid (Below w.heap.size w (w1.setCell ⟨w.heap.size,0,none⟩ (.slice A1 n c1))):=Lib.hid (hgw1.setCell (p:=⟨w.heap.size,0,none⟩) (Nat.le_refl _) _)
 have hcap:=hown.cap
 have hblk:Hid (∀ g,A1=some ⟨g,0,none⟩→w.heap.size+2≤g∧g < w1.heap.size):=Lib.hid (fun g e=>hown.block g (by rw [e];rfl))
 by_cases h0:n=0
 ·subst h0
  have hfs:fs=[]:=List.eq_nil_of_length_eq_zero HN.out
  subst hfs
  have HO:Hid (OwnF (w1.setCell ⟨w.heap.size,0,none⟩ (.slice A1 0 c1)) w.heap.size 51 (fun _=>False) A1 0 c1 []):=Lib.hid (by
   refine (OwnF.of_empty hown (by omega)).keep (fun g e=>?_) (fun b o h=>h.elim)
   have:=hblk.out g e
   exact Below.heap_setCell _ _ _ _ (by show g≠w.heap.size;omega))
  clear hown
  obtain ⟨x0_2,f0_2⟩:=block_cell E0_2.out 0 _ rfl
  obtain ⟨x1_2,f1_2⟩:=block_cell E0_2.out 1 _ rfl
  obtain ⟨x2_2,f2_2⟩:=block_cell E0_2.out 2 _ rfl
  obtain ⟨x3_2,f3_2⟩:=block_cell E0_2.out 3 _ rfl
  obtain ⟨y0_2,g0_2⟩:=block_cell E1_2.out 0 _ rfl
  obtain ⟨y1_2,g1_2⟩:=block_cell E1_2.out 1 _ rfl
  obtain ⟨y2_2,g2_2⟩:=block_cell E1_2.out 2 _ rfl
  obtain ⟨y3_2,g3_2⟩:=block_cell E1_2.out 3 _ rfl
  have hs2:(w1.setCell ⟨w.heap.size,0,none⟩ (.slice A1 0 c1)).heap.size=w1.heap.size:=by simp [World.setCell]
  generalize w1.setCell ⟨w.heap.size,0,none⟩ (.slice A1 0 c1)=W2 at *
  go_loopw [11] (fun i wr=>i = .int .i64 0∧wr=W2) (fun _ _=>0)
  case atStart=>exact ⟨rfl,rfl⟩
  case round =>
   obtain ⟨rfl,rfl⟩:=hrel
   go_wp2
   refine bodyPost_ret (v:=.agg #[.slice A1 0 c1,.int .i64 room,.int .i64 fuse,.bool down]) (by simp [results,Try.results39,go_sem,y0_2,y1_2,y2_2,y3_2]) rfl ?_
   refine ⟨A1,c1,_,rfl,HO.out.keep (fun g e=>?_) (fun b o h=>h.elim),fun g cur T hA hE i f hi=>by simp at hi,Lib.hid (fun b h=>h.elim),below_set4 HB2.out (by omega) _ _ _ _⟩
   have:=hblk.out g e
   exact heap_set4 _ _ _ _ (by omega)
 ·obtain ⟨g,rfl⟩:∃ g,A1=some ⟨g,0,none⟩:=by
   obtain ⟨css,h1,_⟩:=hown
   obtain ⟨g,cap,hv,_⟩:=World.ownsRow.form h1 (by omega)
   injection hv with hv
   exact ⟨g,hv⟩
  have hg:=hblk.out g rfl
  have hSg:¬ S g:=fun h=>by have:=HS.out g h;omega
  obtain ⟨cur0,q1,q2,q3,q4⟩:=(OwnF.of_elems hown (fun g' e h=>hSg (addr_eq e▸h))).start (T8:=5) w1.heap.size
  have EG_2:Hid ((w1.setCell ⟨w.heap.size,0,none⟩ (.slice (some ⟨g,0,none⟩) n c1)).heap[g]?=some (.cells cur0 51 (0,0))):=Lib.hid ((Below.heap_setCell _ _ _ _ (by show g≠w.heap.size;omega)).trans q1)
  have CI:Hid (CopyInv w1.heap.size 5 S c1 fs 0 (w1.setCell ⟨w.heap.size,0,none⟩ (.slice (some ⟨g,0,none⟩) n c1)) cur0):=Lib.hid (by
   refine ⟨q4.1,fun j f hj=>?_,q4.2.2⟩
   obtain ⟨v,h1,h2,h3⟩:=q4.2.1 j f hj
   exact ⟨v,h1,fun h=>(h2 h).keep (fun b o hSb=>World.cell?_of_block (Below.heap_setCell _ _ _ _ (by have:=HS.out b hSb;show b≠w.heap.size;omega))) (fun _ h=>h),fun h=>absurd h (Nat.not_lt_zero _)⟩)
  clear q1 q2 q3 q4 hown hblk
  have hs2:(w1.setCell ⟨w.heap.size,0,none⟩ (.slice (some ⟨g,0,none⟩) n c1)).heap.size=w1.heap.size:=by simp [World.setCell]
  generalize w1.setCell ⟨w.heap.size,0,none⟩ (.slice (some ⟨g,0,none⟩) n c1)=W2 at *
  have hm:=hcap.2
  have hn1:=hcap.1
  unfold maxLen at hm hcm
  clear hcap
  obtain ⟨B,hB⟩:∃ B,B=w1.heap.size:=⟨_,rfl⟩
  rw [← hB] at CI hs2 hg
  go_loopw [11] (fun i wr => ∃ k:Nat,k≤n∧i = .int .i64 k∧Hid (∃ cur,wr.heap[w.heap.size]?=some (.cells #[.slice (some ⟨g,0,none⟩) n c1,.int .i64 room,.int .i64 fuse,.bool down] 24 (0,0))∧wr.heap[w.heap.size+1]?=some (.cells #[.slice none 0 0,.int .i64 0,.int .i64 0,.bool false] 24 (0,0)) ∧
   wr.heap[g]?=some (.cells cur 51 (0,0))∧CopyInv B 5 S c1 fs k wr cur∧Below w.heap.size w wr∧B≤wr.heap.size)) (fun i _=>n - (intOf i).toNat)
  case atStart=>exact ⟨0,Nat.zero_le _,rfl,Lib.hid ⟨cur0,E0_2.out,E1_2.out,EG_2.out,CI.out,HB2.out,by omega⟩⟩
  case round =>
   obtain ⟨k,hk,rfl,HI⟩:=hrel
   clear CI EG_2 E1_2 E0_2 HB2
   obtain ⟨cur,e0,e1,eg,ci,hbr,hBr⟩:=HI.out
   have E0:=Lib.hid e0
   have E1:=Lib.hid e1
   have EG:=Lib.hid eg
   have CI:=Lib.hid ci
   clear e0 e1 eg HI
   by_cases hlt:k < n
   ·have hkf:k < fs.length:=by rw [HN.out];exact hlt
    obtain ⟨v,⟨c0,cell,_⟩,hrd,_⟩:=ci.2.1 k fs[k] (List.getElem?_eq_getElem hkf)
    obtain ⟨Aj,nj,cj,rfl,rd1,rd2,rd3,rd4⟩:=hrd (Nat.le_refl _)
    have hSw:∀ b,S b→b < wr.heap.size:=fun b hb=>by have:=HS.out b hb;omega
    have HCL:Hid (Calls Try.prog 43 #[.slice Aj nj cj] wr.drew fun e w' => ∃ A2 n2 c2,e = .returned (.slice A2 n2 c2)∧OwnBys w' wr.heap.size 5 A2 n2 c2 fs[k].data∧Below wr.heap.size wr w') :=
     Lib.hid ((dclone Aj nj cj fs[k].data S wr.drew hSw (rd1.keep (fun _ _ _=>rfl) (fun _ h=>h)) rd2 (by have:=HL.out fs[k] (List.getElem_mem hkf);omega) rd4).mono (fun e w' ⟨A2,n2,c2,h1,h2,h3⟩=>⟨A2,n2,c2,h1,h2,(Below.refl _ _).drew.trans h3⟩))
    have HSW:=Lib.hid hSw
    have CELL:=Lib.hid cell
    obtain ⟨x0,f0⟩:=block_cell E0.out 0 _ rfl
    obtain ⟨z,fz⟩:=block_cell EG.out (k * 3+1) _ cell
    clear c0 hrd rd1 rd2 rd3 rd4 hSw ci cell
    go_wp2
    go_region_with (go_at_call 43;refine Calls.mono HCL.out ?_;rintro e w2 ⟨A2,n2,c2,rfl,ho,hg2⟩;have hs3:=hg2.size;have E0_3:=Lib.hid ((hg2.block w.heap.size (by omega)).trans E0.out);have E1_3:=Lib.hid ((hg2.block (w.heap.size+1) (by omega)).trans E1.out);have EG_3:=Lib.hid ((hg2.block g (by omega)).trans EG.out);obtain ⟨x0_3,f0_3⟩:=block_cell E0_3.out 0 _ rfl;obtain ⟨z_3,fz_3⟩:=block_cell EG_3.out (k * 3+1) _ CELL.out)
    all_goals
     go_wp2
     go_roundw
     case rel =>
      refine ⟨k+1,by omega,by go_num,Lib.hid ⟨cur.setIfInBounds (k * 3+1) (.slice A2 n2 c2),?_,?_,?_,?_,?_,?_⟩⟩
      ·exact (Below.heap_setCell _ _ _ _ (by show w.heap.size≠g;omega)).trans E0_3.out
      ·exact (Below.heap_setCell _ _ _ _ (by show w.heap.size+1≠g;omega)).trans E1_3.out
      ·exact heap_setCell_same _ g _ _ _ _ EG_3.out
      ·exact CI.out.step (List.getElem?_eq_getElem hkf) (by omega) ho hBr HSW.out (by omega) hSg (fun b hb=>hg2.block b hb) (fun b hb=>Below.heap_setCell _ _ _ _ hb)
      ·exact (hbr.trans (hg2.mono (by omega))).setCell (p:=⟨g,_,none⟩) (by show w.heap.size≤g;omega) _
      ·simp [World.setCell];omega
     case measure=>first | (simp [intOf];done) | (simp [intOf];omega)
   ·obtain rfl:k=n:=by omega
    have CI2:CopyInv B 5 S c1 fs fs.length wr cur:=by rw [HN.out];exact CI.out
    obtain ⟨d1,d2⟩:=CI2.done (g:=g) (by omega) EG.out HN.out hn1 (by unfold maxLen;omega) (b0:=w.heap.size) (by omega)
    have D1:=Lib.hid d1
    have D2:=Lib.hid d2
    clear d1 d2 CI2 CI ci
    obtain ⟨x0,f0⟩:=block_cell E0.out 0 _ rfl
    obtain ⟨x1,f1⟩:=block_cell E0.out 1 _ rfl
    obtain ⟨x2,f2⟩:=block_cell E0.out 2 _ rfl
    obtain ⟨x3,f3⟩:=block_cell E0.out 3 _ rfl
    obtain ⟨y0,g0⟩:=block_cell E1.out 0 _ rfl
    obtain ⟨y1,g1⟩:=block_cell E1.out 1 _ rfl
    obtain ⟨y2,g2⟩:=block_cell E1.out 2 _ rfl
    obtain ⟨y3,g3⟩:=block_cell E1.out 3 _ rfl
    go_wp2
    refine bodyPost_ret (v:=.agg #[.slice (some ⟨g,0,none⟩) k c1,.int .i64 room,.int .i64 fuse,.bool down]) (by simp [results,Try.results39,go_sem,y0,y1,y2,y3]) rfl ?_
    refine ⟨some ⟨g,0,none⟩,c1,(fun b=>B≤b∧b < wr.heap.size),rfl,D1.out.keep (fun g' e=>?_) (alike_set4 (fun h=>by have:=h.1;omega) _ _ _ _),(D2.out.keep (fun g' e=>?_) (fun b h1 h2 h3=>heap_set4 _ _ _ _ (by omega)) (fun b h=>h) (fun b h1 h2 h3=>heap_set4 _ _ _ _ (by omega))).lower (by omega),Lib.hid (fun b h=>by rw [size_set4];omega),below_set4 hbr (by omega) _ _ _ _⟩
    ·rw [addr_eq e];exact heap_set4 _ _ _ _ (by omega)
    ·rw [addr_eq e];exact heap_set4 _ _ _ _ (by omega)
end Go.Proofs.Ytlipgnenbdchmaa.disk
end
section
namespace Go.Proofs.Ytlipgnenbdchmaa.disk
set_option maxRecDepth 20000
open Go.RowKit
def spentD (fuse:Int) (down:Bool):(Int × Bool) × Int:=if fuse=0 then ((0,true),9) else if fuse = -1 then ((-1,down),0) else ((fuse - 1,down),0)
set_option maxHeartbeats 2000000 in
theorem dspent (A:Option Addr) (n c:Nat) (room fuse:Int) (down:Bool) (f2:Int) (dn2:Bool) (x:Int) (w:World) (hfu:inI fuse) (h0 : -1≤fuse) (hx:spentD fuse down=((f2,dn2),x)) :
  Calls Try.prog 54 #[.agg #[.slice A n c,.int .i64 room,.int .i64 fuse,.bool down]] w fun e w'=>e = .returned (.tuple #[.agg #[.slice A n c,.int .i64 room,.int .i64 f2,.bool dn2],.int .i64 x])∧Below w.heap.size w w':=by
 unfold inI at hfu
 have HB:Hid (∀ o1 o2,Below w.heap.size w ((w.alloc o1).alloc o2)):=Lib.hid (fun o1 o2=>((Below.refl _ _).alloc (Nat.le_refl _) o1).alloc (by simp) o2)
 unfold spentD at hx
 rcases (show fuse=0∨fuse = -1∨0 < fuse by omega) with rfl | rfl | h1
 ·simp only [if_true,Prod.mk.injEq] at hx
  obtain ⟨⟨rfl,rfl⟩,rfl⟩:=hx
  go_enter Try.func54,Try.ntmps54
  go_wp2
  refine bodyPost_ret (v:=.tuple #[.agg #[.slice A n c,.int .i64 room,.int .i64 0,.bool true],.int .i64 9]) (by simp [results,Try.results54,go_sem]) rfl ⟨rfl,?_⟩
  repeat (first | exact HB.out _ _ | refine Below.setCell ?_ (by simp) _)
 ·rw [if_neg (by omega),if_pos rfl] at hx
  simp only [Prod.mk.injEq] at hx
  obtain ⟨⟨rfl,rfl⟩,rfl⟩:=hx
  go_enter Try.func54,Try.ntmps54
  go_wp2
  refine bodyPost_ret (v:=.tuple #[.agg #[.slice A n c,.int .i64 room,.int .i64 (-1),.bool down],.int .i64 0]) (by simp [results,Try.results54,go_sem]) rfl ⟨rfl,?_⟩
  repeat (first | exact HB.out _ _ | refine Below.setCell ?_ (by simp) _)
 ·rw [if_neg (by omega),if_neg (by omega)] at hx
  simp only [Prod.mk.injEq] at hx
  obtain ⟨⟨rfl,rfl⟩,rfl⟩:=hx
  have hb1:(fuse == 0)=false:=by simpa using (show fuse≠0 by omega)
  have hb2:(fuse != -1)=true:=by simpa using (show fuse ≠ -1 by omega)
  go_enter Try.func54,Try.ntmps54
  go_wp2
  refine bodyPost_ret (v:=.tuple #[.agg #[.slice A n c,.int .i64 room,.int .i64 (fuse - 1),.bool down],.int .i64 0]) (by simp [results,Try.results54,go_sem]) rfl ⟨rfl,?_⟩
  repeat (first | exact HB.out _ _ | refine Below.setCell ?_ (by simp) _)
end Go.Proofs.Ytlipgnenbdchmaa.disk
end
