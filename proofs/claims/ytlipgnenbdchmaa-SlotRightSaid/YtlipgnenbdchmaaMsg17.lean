/-
  DiskRef6
-/
import Derived.Test.YtlipgnenbdchmaaMsg16
import Derived.Test.YtlipgnenbdchmaaMsg09
set_option linter.unusedVariables false
set_option linter.unusedSimpArgs false
namespace Go.Proofs.Ytlipgnenbdchmaa.disk
set_option maxRecDepth 20000
open Go.RowKit
theorem put_step {fs:List FileD} {k:Nat} {g:FileD} (f:FileD) (p:Bool) (h:fs[k]?=some g) :
  putFrom f (fs.drop k) p=(if !p && atLeast g.name f.name then [f] else [])++((if sameName g.name f.name then [] else [g])++putFrom f (fs.drop (k+1)) (p || atLeast g.name f.name)):=by
 obtain ⟨hk,rfl⟩:=List.getElem?_eq_some_iff.1 h
 rw [List.drop_eq_getElem_cons hk]
 rfl
set_option maxHeartbeats 8000000 in
theorem rwith (A Af:Option Addr) (n c nf cf:Nat) (room fuse:Int) (down:Bool) (fs:List FileD) (f:FileD) (S:Nat→Prop) (w:World) (hS:∀ b,S b→b < w.heap.size) (hf:FilesIn w S A fs) (hn:fs.length=n) (hc:n≤1000000)
  (r1:f.name.size≤maxLen) (r2:BysIn w S Af f.data) (r3:f.data.length=nf) (r4:nf≤cf) (r5:cf≤maxLen) (r6:inI f.sure) :
  Calls Try.prog 57 #[.agg #[.slice A n c,.int .i64 room,.int .i64 fuse,.bool down],.agg #[.string f.name,.slice Af nf cf,.int .i64 f.sure]] w (RetDisk S w ⟨withF f fs,room,fuse,down⟩):=by
 have HN:Hid (fs.length=n):=Lib.hid hn
 have HR3:=Lib.hid r3
 have HR1:=Lib.hid r1
 clear hn r3 r1
 have HL:Hid (∀ b,S b→b < w.heap.size+3):=Lib.hid (fun b h=>by have:=hS b h;omega)
 have hinfo:Hid ((Try.prog.info? 51).map (fun i=>(i.zero,i.size,i.bytes))=some (some (.agg #[.string ByteArray.empty,.slice none 0 0,.int .i64 0]),3,48)):=Lib.hid (by kernel_rfl)
 have HFf:Hid (∀ W,Below w.heap.size w W→rdFile W S [.string f.name,.slice Af nf cf,.int .i64 f.sure] f):=Lib.hid (fun W hb =>
  ⟨Af,nf,cf,rfl,HR1.out,r2.below hS hb,HR3.out,r4,r5,by unfold inI at r6;exact WalkArith.wf_i64 r6⟩)
 obtain ⟨W0,hW0⟩:∃ W0,Hid (((w.alloc (.cells #[.slice A n c,.int .i64 room,.int .i64 fuse,.bool down] 24)).alloc (.cells #[.string f.name,.slice Af nf cf,.int .i64 f.sure] 51)).alloc (.cells #[.slice none 0 0,.int .i64 0,.int .i64 0,.bool false] 24)=W0):=⟨_,Lib.hid rfl⟩
 have hb0:Below w.heap.size w W0:=by rw [← hW0.out];exact (((Below.refl _ _).alloc (Nat.le_refl _) _).alloc (by simp) _).alloc (by simp;omega) _
 have HS0:Hid (W0.heap.size=w.heap.size+3):=Lib.hid (by rw [← hW0.out];simp)
 have HB1:Hid (W0.heap[w.heap.size]?=some (.cells #[.slice A n c,.int .i64 room,.int .i64 fuse,.bool down] 24 (0,0))):=Lib.hid (by
  rw [← hW0.out,Below.heap_alloc _ _ _ (by simp;omega),Below.heap_alloc _ _ _ (by simp)];exact heap_alloc_new w _)
 have HB2:Hid (W0.heap[w.heap.size+1]?=some (.cells #[.string f.name,.slice Af nf cf,.int .i64 f.sure] 51 (0,0))):=Lib.hid (by
  rw [← hW0.out,Below.heap_alloc _ _ _ (by simp)];simpa using heap_alloc_new (w.alloc (.cells #[.slice A n c,.int .i64 room,.int .i64 fuse,.bool down] 24)) _)
 have HB3:Hid (W0.heap[w.heap.size+1+1]?=some (.cells #[.slice none 0 0,.int .i64 0,.int .i64 0,.bool false] 24 (0,0))):=Lib.hid (by
  rw [← hW0.out];simpa using heap_alloc_new ((w.alloc (.cells #[.slice A n c,.int .i64 room,.int .i64 fuse,.bool down] 24)).alloc (.cells #[.string f.name,.slice Af nf cf,.int .i64 f.sure] 51)) (.cells #[.slice none 0 0,.int .i64 0,.int .i64 0,.bool false] 24))
 go_enter Try.func57,Try.ntmps57
 go_wp2
 go_loopw [5,6,7] (fun t q i wr => ∃ (k m c' : Nat) (A' : Option Addr) (p:Bool) (acc:List FileD),k≤n∧i = .int .i64 k∧t = .slice A' m c'∧q = .bool p∧m≤k+1∧(p=false→m≤k)∧Hid (withF f fs=acc++putFrom f (fs.drop k) p) ∧
  OwnElems rdFile 3 wr (w.heap.size+3) 51 S A' m c' acc∧Below (w.heap.size+3) W0 wr) (fun _ _ i _=>n - (intOf i).toNat)
 case atStart=>exact ⟨0,0,0,none,false,[],Nat.zero_le _,rfl,rfl,rfl,by omega,by omega,Lib.hid (by simp [withF]),OwnElems.nil,by rw [hW0.out];exact Below.refl _ _⟩
 case round =>
  obtain ⟨k,m,c',A',p,acc,hk,rfl,rfl,rfl,hmk,hmp,HW,hown,hbr⟩:=hrel
  have hsz:=hbr.size
  rw [HS0.out] at hsz
  have HB1' : Hid (wr.heap[w.heap.size]?=some (.cells #[.slice A n c,.int .i64 room,.int .i64 fuse,.bool down] 24 (0,0))):=Lib.hid ((hbr.block _ (by omega)).trans HB1.out)
  have HB2' : Hid (wr.heap[w.heap.size+1]?=some (.cells #[.string f.name,.slice Af nf cf,.int .i64 f.sure] 51 (0,0))):=Lib.hid ((hbr.block _ (by omega)).trans HB2.out)
  have HB3' : Hid (wr.heap[w.heap.size+1+1]?=some (.cells #[.slice none 0 0,.int .i64 0,.int .i64 0,.bool false] 24 (0,0))):=Lib.hid ((hbr.block _ (by omega)).trans HB3.out)
  have hbw:Below w.heap.size w wr:=hb0.trans (hbr.mono (by omega))
  by_cases hlt:k < n
  ·have x0:=(block_cell HB1'.out 0 (.slice A n c) rfl).1
   have z0:=(block_cell HB2'.out 0 (.string f.name) rfl).1
   have z1:=(block_cell HB2'.out 1 (.slice Af nf cf) rfl).1
   have z2:=(block_cell HB2'.out 2 (.int .i64 f.sure) rfl).1
   obtain ⟨b,off,g,A2,n2,c2,rfl,hb',HX,cell0,cell1,cell2,q1,q2,q3,q4,q5,q6⟩:=(hf.below hS hbw).at_ (j:=k) (by rw [HN.out];exact hlt)
   have hb:=hS b hb'
   clear hb'
   have HP:=Lib.hid (HW.out.trans (by rw [put_step f p HX.out]))
   have HG:Hid (∀ W,Below w.heap.size wr W→rdFile W S [.string g.name,.slice A2 n2 c2,.int .i64 g.sure] g):=Lib.hid (fun W hb' =>
    ⟨A2,n2,c2,rfl,q1,q2.below hS hb',q3.out,q4,q5,by unfold inI at q6;exact WalkArith.wf_i64 q6⟩)
   have HBW:=Lib.hid hbw
   have HBR:=Lib.hid hbr
   have u1:w.heap.size < wr.heap.size:=by omega
   have u2' : w.heap.size+1 < wr.heap.size:=by omega
   have u3' : b < wr.heap.size:=by omega
   rcases hge:atLeast g.name f.name with _ | _<;>rcases hs:sameName g.name f.name with _ | _<;>rcases p with _ | _
   all_goals
    have HP2:=Lib.hid (by simpa [hge,hs] using HP.out:_)
    have k1:Op.bytesLess g.name.toList f.name.toList = !(atLeast g.name f.name):=by simp [atLeast]
    have k2:(g.name.toList == f.name.toList)=sameName g.name f.name:=rfl
    have k3:(g.name.toList != f.name.toList) = !(sameName g.name f.name):=rfl
    rw [hge] at k1
    rw [hs] at k2 k3
    simp only [Bool.not_false,Bool.not_true] at k1 k3
    clear hge hs HP
    first | have hmk2:=hmp rfl | skip
    clear hmp
   all_goals
    go_wp2
    go_quiet (fail)
    go_wp2_with (at_builtin;refine wpList_push rfl (.tmp 28) (.tmp 30) _ rfl keeps_file leaf_file (by decide) (w.heap.size+3) S 51 _ 48 Try.underlying22 hinfo.out rfl rfl rfl (hown.drewN keeps_file _) (HFf.out _ (below_drewN HBW.out _)) rfl HL.out (by show w.heap.size+3≤wr.heap.size;omega) (by unfold maxLen;omega) (by omega) ?_;intro A3 c3 w3 hown3 hg3;have hb3:Below (w.heap.size+3) wr w3:=(below_drewN (Below.refl _ _) _).trans hg3;have v0:=(hb3.cell (p:=⟨w.heap.size,0,none⟩) (by show w.heap.size < _;omega)).trans x0;have v1:=(hb3.cell (p:=⟨w.heap.size+1,0,none⟩) (by show w.heap.size+1 < _;omega)).trans z0;have d0:=(hb3.cell (p:=⟨b,off+k * 3,none⟩) (by show b < _;omega)).trans cell0;have d1:=(hb3.cell (p:=⟨b,off+k * 3+1,none⟩) (by show b < _;omega)).trans cell1;have d2:=(hb3.cell (p:=⟨b,off+k * 3+2,none⟩) (by show b < _;omega)).trans cell2;have d3:=hb3.size)
    go_quiet (fail)
    go_wp2_with (first
     |(at_builtin;refine wpList_push rfl (.tmp 41) (.tmp 47) _ rfl keeps_file leaf_file (by decide) (w.heap.size+3) S 51 _ 48 Try.underlying22 hinfo.out rfl rfl rfl (hown3.drewN keeps_file _) (HG.out _ (below_drewN (hb3.mono (by omega)) _)) rfl HL.out (by show w.heap.size+3≤w3.heap.size;omega) (by unfold maxLen;omega) (by omega) ?_;intro A4 c4 w4 hown4 hg4;have hb4:Below (w.heap.size+3) wr w4:=hb3.trans ((below_drewN (Below.refl _ _) _).trans hg4))
     |(at_builtin;refine wpList_push rfl (.tmp 41) (.tmp 47) _ rfl keeps_file leaf_file (by decide) (w.heap.size+3) S 51 _ 48 Try.underlying22 hinfo.out rfl rfl rfl (hown.drewN keeps_file _) (HG.out _ (below_drewN (Below.refl _ _) _)) rfl HL.out (by show w.heap.size+3≤wr.heap.size;omega) (by unfold maxLen;omega) (by omega) ?_;intro A4 c4 w4 hown4 hg4;have hb4:Below (w.heap.size+3) wr w4:=(below_drewN (Below.refl _ _) _).trans hg4))
    go_roundw
    case rel =>
     first
     |exact ⟨k+1,_,_,_,_,acc++[f]++[g],by omega,by go_num,rfl,rfl,by omega,by intro h;first | cases h | omega,Lib.hid (by have:=HP2.out;simpa using this),hown4,hbr.trans hb4⟩
     |exact ⟨k+1,_,_,_,_,acc++[g],by omega,by go_num,rfl,rfl,by omega,by intro h;first | (cases h;done) | omega,Lib.hid (by have:=HP2.out;simpa using this),hown4,hbr.trans hb4⟩
     |exact ⟨k+1,_,_,_,_,acc++[f],by omega,by go_num,rfl,rfl,by omega,by intro h;first | (cases h;done) | omega,Lib.hid (by have:=HP2.out;simpa using this),hown3.drewN keeps_file _,below_drewN (hbr.trans hb3) _⟩
     |exact ⟨k+1,_,_,_,_,acc,by omega,by go_num,rfl,rfl,by omega,by intro h;first | (cases h;done) | omega,Lib.hid (by have:=HP2.out;simpa using this),hown.drewN keeps_file _,below_drewN hbr _⟩
    case measure=>first | (simp [intOf];done) | (simp [intOf];omega)
  ·have HE:Hid (withF f fs=acc++if p then [] else [f]):=Lib.hid (by
    have:=HW.out
    rw [List.drop_of_length_le (by rw [HN.out];omega)] at this
    exact this)
   have HBW:=Lib.hid hbw
   have fin:∀ (W1:World) (A1:Option Addr) (m1 c1:Nat) (res:List FileD),OwnElems rdFile 3 W1 (w.heap.size+3) 51 S A1 m1 c1 res→Below (w.heap.size+3) wr W1 →
     Hid (OwnElems rdFile 3 (((((W1.setCell ⟨w.heap.size,0,none⟩ (.slice A1 m1 c1)).setCell ⟨w.heap.size+1+1,0,none⟩ (.slice A1 m1 c1)).setCell ⟨w.heap.size+1+1,1,none⟩ (.int .i64 room)).setCell ⟨w.heap.size+1+1,2,none⟩ (.int .i64 fuse)).setCell ⟨w.heap.size+1+1,3,none⟩ (.bool down)) (w.heap.size+3) 51 S A1 m1 c1 res):=by
    intro W1 A1 m1 c1 res h _
    have st:=fun (w5:World) (h:OwnElems rdFile 3 w5 (w.heap.size+3) 51 S A1 m1 c1 res) (q:Addr) (hq:q.block=w.heap.size∨q.block=w.heap.size+1+1) (u:Value) =>
     h.setBelow keeps_file (p:=q) (by omega) (fun b hb'=>by have:=hS b hb';omega) u
    exact Lib.hid (st _ (st _ (st _ (st _ (st W1 h ⟨w.heap.size,0,none⟩ (.inl rfl) _) ⟨w.heap.size+1+1,0,none⟩ (.inr rfl) _) ⟨w.heap.size+1+1,1,none⟩ (.inr rfl) _) ⟨w.heap.size+1+1,2,none⟩ (.inr rfl) _) ⟨w.heap.size+1+1,3,none⟩ (.inr rfl) _)
   have FIN:=Lib.hid fin
   clear fin
   obtain ⟨x0,f0⟩:=block_cell HB1'.out 0 (.slice A n c) rfl
   obtain ⟨x1,f1⟩:=block_cell HB1'.out 1 (.int .i64 room) rfl
   obtain ⟨x2,f2⟩:=block_cell HB1'.out 2 (.int .i64 fuse) rfl
   obtain ⟨x3,f3⟩:=block_cell HB1'.out 3 (.bool down) rfl
   obtain ⟨z0,h0⟩:=block_cell HB2'.out 0 (.string f.name) rfl
   obtain ⟨z1,h1⟩:=block_cell HB2'.out 1 (.slice Af nf cf) rfl
   obtain ⟨z2,h2⟩:=block_cell HB2'.out 2 (.int .i64 f.sure) rfl
   obtain ⟨y0,g0⟩:=block_cell HB3'.out 0 (.slice none 0 0) rfl
   obtain ⟨y1,g1⟩:=block_cell HB3'.out 1 (.int .i64 0) rfl
   obtain ⟨y2,g2⟩:=block_cell HB3'.out 2 (.int .i64 0) rfl
   obtain ⟨y3,g3⟩:=block_cell HB3'.out 3 (.bool false) rfl
   rcases p with _ | _
   ·have HE2:Hid (withF f fs=acc++[f]):=Lib.hid (by simpa using HE.out)
    go_wp2_with (at_builtin;refine wpList_push rfl (.tmp 51) (.tmp 53) _ rfl keeps_file leaf_file (by decide) (w.heap.size+3) S 51 _ 48 Try.underlying22 hinfo.out rfl rfl rfl hown (HFf.out _ HBW.out) rfl HL.out (by omega) (by unfold maxLen;omega) (by omega) ?_;intro A4 c4 w4 hown4 hg4;have e0:w4.heap[w.heap.size]?=_:=(hg4.block _ (by omega)).trans HB1'.out;have e2:w4.heap[w.heap.size+1+1]?=_:=(hg4.block _ (by omega)).trans HB3'.out;obtain ⟨v0,l0⟩:=block_cell e0 0 (.slice A n c) rfl;obtain ⟨v1,l1⟩:=block_cell e0 1 (.int .i64 room) rfl;obtain ⟨v2,l2⟩:=block_cell e0 2 (.int .i64 fuse) rfl;obtain ⟨v3,l3⟩:=block_cell e0 3 (.bool down) rfl;obtain ⟨o0,n0⟩:=block_cell e2 0 (.slice none 0 0) rfl;obtain ⟨o1,n1⟩:=block_cell e2 1 (.int .i64 0) rfl;obtain ⟨o2,n2⟩:=block_cell e2 2 (.int .i64 0) rfl;obtain ⟨o3,n3⟩:=block_cell e2 3 (.bool false) rfl;clear e0 e2)
    refine bodyPost_ret (v:=.agg #[.slice A4 (m+1) c4,.int .i64 room,.int .i64 fuse,.bool down]) (by simp [results,Try.results57,go_sem,o0,o1,o2,o3]) rfl ⟨A4,m+1,c4,rfl,?_,Lib.hid (by rw [HE2.out];exact hown4.len),hown4.cap.1,hown4.cap.2,?_⟩
    ·rw [HE2.out]
     exact (FIN.out _ _ _ _ _ hown4 hg4).out.elems keeps_file (by decide) (fun b hb'=>.inl hb') (fun g h1 h2=>.inr ⟨by omega,h2⟩)
    ·exact (((((HBW.out.trans (hg4.mono (by omega))).setCell (by first | (simp;done) | (show w.heap.size≤w.heap.size+1+1;omega)) _).setCell (by first | (simp;done) | (show w.heap.size≤w.heap.size+1+1;omega)) _).setCell (by first | (simp;done) | (show w.heap.size≤w.heap.size+1+1;omega)) _).setCell (by first | (simp;done) | (show w.heap.size≤w.heap.size+1+1;omega)) _).setCell (by first | (simp;done) | (show w.heap.size≤w.heap.size+1+1;omega)) _
   ·have HE2:Hid (withF f fs=acc):=Lib.hid (by simpa using HE.out)
    go_wp2
    refine bodyPost_ret (v:=.agg #[.slice A' m c',.int .i64 room,.int .i64 fuse,.bool down]) (by simp [results,Try.results57,go_sem,y0,y1,y2,y3]) rfl ⟨A',m,c',rfl,?_,Lib.hid (by rw [HE2.out];exact hown.len),hown.cap.1,hown.cap.2,?_⟩
    ·rw [HE2.out]
     exact (FIN.out _ _ _ _ _ hown (Below.refl _ _)).out.elems keeps_file (by decide) (fun b hb'=>.inl hb') (fun g h1 h2=>.inr ⟨by omega,h2⟩)
    ·exact ((((HBW.out.setCell (by first | (simp;done) | (show w.heap.size≤w.heap.size+1+1;omega)) _).setCell (by first | (simp;done) | (show w.heap.size≤w.heap.size+1+1;omega)) _).setCell (by first | (simp;done) | (show w.heap.size≤w.heap.size+1+1;omega)) _).setCell (by first | (simp;done) | (show w.heap.size≤w.heap.size+1+1;omega)) _).setCell (by first | (simp;done) | (show w.heap.size≤w.heap.size+1+1;omega)) _
end Go.Proofs.Ytlipgnenbdchmaa.disk
