/-
  DiskImpl4
-/
import Derived.Test.YtlipgnenbdchmaaMsg23
import Derived.Test.YtlipgnenbdchmaaMsg24
import Derived.Lib.SliceRun
set_option linter.unusedVariables false
set_option linter.unusedSimpArgs false
namespace Go.Proofs.Ytlipgnenbdchmaa.disk
set_option maxRecDepth 20000
open Go.RowKit
theorem dclone (A:Option Addr) (n c:Nat) (bs:List Nat) (S:Nat→Prop) (w:World) (hS:∀ b,S b→b < w.heap.size) (hb:BysIn w S A bs) (hn:bs.length=n) (hbig:n≤1000000000) (hc:c≤maxLen) :
  Calls Try.prog 43 #[.slice A n c] w fun e w' => ∃ A' n' c',e = .returned (.slice A' n' c')∧OwnBys w' w.heap.size 5 A' n' c' bs∧Below w.heap.size w w':=by
 have hinfo:Hid ((Try.prog.info? 5).map (fun i=>(i.zero,i.size,i.bytes))=some (some (.int .u8 0),1,1)):=Lib.hid (by kernel_rfl)
 have HQ:Hid (∀ W,Below w.heap.size w W→Bys W w.heap.size A bs):=Lib.hid (fun W h=>(hb.bys hS).below h)
 have HN:=Lib.hid hn
 have h0:Hid (A=none→bs=[]):=Lib.hid (fun e=>by
  by_cases h:0 < (toI bs).length
  ·obtain ⟨b,off,e2,_⟩:=hb.2 h;rw [e] at e2;cases e2
  ·rw [toI_len] at h;exact List.eq_nil_of_length_eq_zero (by omega))
 clear hb hn
 have hb0:∀ o:Obj,Below w.heap.size w (w.alloc o):=fun o=>(Below.refl _ _).alloc (Nat.le_refl _) o
 have HB0:=Lib.hid hb0
 clear hb0
 have q25:∀ (w:World) (a:Option Addr) (n c n' c' : Nat),(binOp .eql 27 (.slice a n c) (.slice none n' c')).run Try.prog w = .ok (.bool a.isNone) w:=fun w a n c n' c'=>Lib.run_eql_slice_nil w _ _ a n c n' c' Try.underlying27
 cases A with
 |none =>
  obtain rfl:=h0.out rfl
  clear h0
  go_enter Try.func43,Try.ntmps43
  go_wp2
  refine bodyPost_ret (v:=.slice none 0 0) (by simp [results,Try.results43,go_sem]) rfl ?_
  exact ⟨none,0,0,rfl,OwnBys.nil,Below.refl _ _⟩
 |some a =>
  clear h0
  go_enter Try.func43,Try.ntmps43
  go_wp2_with (at_builtin;refine wpList_append_bys rfl (.tmp 5) (.tmp 6) _ rfl w.heap.size 5 Try.underlying27 hinfo.out rfl (OwnBys.new (Nat.le_refl _) [] rfl (by simp) rfl (by unfold maxLen;omega)) rfl (HQ.out _ (HB0.out _)) HN.out (by omega) (by simp) ?_;intro A5 c5 w5 hown5 hgr5 hat5;have hb5:Below w.heap.size w w5:=(HB0.out _).grown hgr5 (by simp) (by intro g hgg;simp [Value.ownBlock] at hgg;omega);clear hgr5 hat5;simp only [Nat.zero_add,List.nil_append] at hown5)
  refine bodyPost_ret (v:=.slice A5 n c5) (by simp [results,Try.results43,go_sem]) rfl ?_
  exact ⟨_,_,_,rfl,hown5,hb5⟩
theorem readD_eq (d:DiskD) (nm:ByteArray):(foundE d nm≠0∧readD d nm=([],foundE d nm))∨(∃ f,foundE d nm=0∧look nm d.files=some f∧readD d nm=(f.data,0)∧rightB d=true):=by
 by_cases h:firstE d nm nm=0
 ·cases e:look nm d.files with
  |none =>
   have h1:foundE d nm=7:=by unfold foundE noE;rw [if_neg (by simpa using h),if_pos e]
   rw [h1]
   exact .inl ⟨by simp,by unfold readD;rw [if_neg (by simpa using h),e]⟩
  |some f =>
   have h1:foundE d nm=0:=by unfold foundE noE;rw [if_neg (by simpa using h),if_neg (by rw [e];simp)]
   exact .inr ⟨f,h1,rfl,by unfold readD;rw [if_neg (by simpa using h),e],(first_zero.1 h).1⟩
 ·have h1:foundE d nm=firstE d nm nm:=by unfold foundE;rw [if_pos h]
  rw [h1]
  exact .inl ⟨h,by unfold readD;rw [if_pos h]⟩
set_option maxHeartbeats 4000000 in
theorem dread (A:Option Addr) (n c:Nat) (room fuse:Int) (down:Bool) (nm:ByteArray) (fs:List FileD) (r:List Nat × Int) (S:Nat→Prop) (w:World) (hS:∀ b,S b→b < w.heap.size) (hf:FilesIn w S A fs) (hn:fs.length=n) (hnc:n≤c) (hcm:c≤maxLen) (hr:inI room) (hfu:inI fuse) (hsh:shortB fs=true) (hnm:nm.size≤100) (hv:readD ⟨fs,room,fuse,down⟩ nm=r) :
  Calls Try.prog 22 #[.agg #[.slice A n c,.int .i64 room,.int .i64 fuse,.bool down],.string nm] w (RetBytes S w r):=by
 obtain ⟨x,hx⟩:∃ x,foundE ⟨fs,room,fuse,down⟩ nm=x:=⟨_,rfl⟩
 obtain ⟨p,hp⟩:∃ p,(if x=0 then placeN nm fs else 0)=p:=⟨_,rfl⟩
 have hus:=used_short hsh
 have HF:Hid (∀ o,Calls Try.prog 42 #[.agg #[.slice A n c,.int .i64 room,.int .i64 fuse,.bool down],.string nm] (w.alloc o) fun e w'=>e = .returned (.tuple #[.int .i64 (p:Nat),.int .i64 x])∧Below (w.alloc o).heap.size (w.alloc o) w') :=
  Lib.hid (fun o=>dfound A n c room fuse down nm fs p x S _ (fun b hb=>by have:=hS b hb;simp;omega) (hf.below hS ((Below.refl _ _).alloc (Nat.le_refl _) o)) hn hnc hcm hr hfu (by omega) (by unfold maxLen;omega) hx hp)
 have HB:Hid (∀ o,Below w.heap.size w (w.alloc o)):=Lib.hid (fun o=>(Below.refl _ _).alloc (Nat.le_refl _) o)
 have K0:=Lib.hid (one_block w #[.slice A n c,.int .i64 room,.int .i64 fuse,.bool down] 24)
 rcases readD_eq ⟨fs,room,fuse,down⟩ nm with ⟨h1,h2⟩ | ⟨f,h1,h2,h3,h4⟩
 ·have HR:Hid (r=([],x)):=Lib.hid (by rw [← hv,h2,hx])
  have hx1:(x != 0)=true:=by rw [← hx];simpa using h1
  clear hx hp hv h1 h2 hf hn hus hsh hS
  go_enter Try.func22,Try.ntmps22
  go_wp2_with ((with_reducible refine (HF.out _).mono ?_);rintro e w1 ⟨rfl,hg⟩;have hgw:=(HB.out _).trans (hg.mono (by simp)))
  refine bodyPost_ret (v:=.tuple #[.slice none 0 0,.int .i64 x]) (by simp [results,Try.results22,go_sem]) rfl ?_
  rw [HR.out]
  exact ⟨none,0,0,rfl,ints_in.1 (Ints.nil _ w1 0 _) |>.keep (alike_refl _ _) (fun b h=>absurd h (Nat.not_lt_zero b)),Lib.hid rfl,Nat.le_refl _,by unfold maxLen;omega,hgw⟩
 ·obtain rfl:0=x:=by rw [← hx,h1]
  have HR:Hid (r=(f.data,0)):=Lib.hid (by rw [← hv,h3])
  have hrow:Row fs:=((right_iff _).1 h4).2.2.2.2.1
  have hpl:=place_at hrow h2
  have hpp:placeN nm fs=p:=by rw [← hp];simp
  rw [hpp] at hpl
  have hpn:p < fs.length:=(List.getElem?_eq_some_iff.1 hpl).1
  obtain ⟨b,off,f',A',n',c',rfl,hbS,HX,cell0,cell1,cell2,q1,q2,q3,q4,q5,q6⟩:=hf.at_ hpn
  obtain rfl:f=f':=by have:=HX.out;rw [hpl] at this;injection this
  have hb:=hS b hbS
  have hlen:n'≤1000000000:=by
   have h5:=used_mem (List.mem_of_getElem? hpl)
   have:=q3.out
   omega
  rw [hn] at hpn
  have HCL:Hid (∀ W,Below w.heap.size w W→Calls Try.prog 43 #[.slice A' n' c'] W fun e w' => ∃ A2 n2 c2,e = .returned (.slice A2 n2 c2)∧OwnBys w' W.heap.size 5 A2 n2 c2 f.data∧Below W.heap.size W w') :=
   Lib.hid (fun W h=>dclone A' n' c' f.data S W (fun b hb=>Nat.lt_of_lt_of_le (hS b hb) h.size) (q2.below hS h) q3.out hlen q5)
  unfold maxLen at hcm
  clear hx hp hv h1 h2 h3 h4 hf hn hus hsh hS hpl hrow hpp q2
  go_enter Try.func22,Try.ntmps22
  go_wp2_with (first
   |((with_reducible refine (HF.out _).mono ?_);rintro e w1 ⟨rfl,hg⟩;have hgw:=(HB.out _).trans (hg.mono (by simp));have E0:=Lib.hid ((hg.block w.heap.size (by simp)).trans K0.out);obtain ⟨x0,f0⟩:=block_cell E0.out 0 _ rfl;have c1:=(hgw.cell (p:=⟨b,off+p * 3+1,none⟩) (by show b < _;omega)).trans cell1)
   |((with_reducible refine (HCL.out _ hgw).mono ?_);rintro e w2 ⟨A2,n2,c2,rfl,hown,hg2⟩;have hgw2:=hgw.trans (hg2.mono hgw.size)))
  refine bodyPost_ret (v:=.tuple #[.slice A2 n2 c2,.int .i64 0]) (by simp [results,Try.results22,go_sem]) rfl ?_
  rw [HR.out]
  have hcap:=OwnInts.cap hown
  refine ⟨A2,n2,c2,rfl,?_,Lib.hid hown.len,hcap.1,hcap.2,hgw2⟩
  exact IntsIn.keep (OwnInts.owned hown) (alike_refl _ _) (fun b hb=>.inr ⟨Nat.le_trans hgw.size (OwnBys.block hown b hb).1,(OwnBys.block hown b hb).2⟩)
end Go.Proofs.Ytlipgnenbdchmaa.disk
