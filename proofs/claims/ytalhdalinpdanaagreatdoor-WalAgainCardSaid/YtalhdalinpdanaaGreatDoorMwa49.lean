/-
  WalAgainW
-/
import Derived.Test.YtalhdalinpdanaaGreatDoorMwa47
import Derived.Test.YtalhdalinpdanaaGreatDoorMwa48
set_option linter.unusedVariables false
set_option linter.unusedSimpArgs false
namespace Go.Proofs.YtalhdalinpdanaaGreatDoor.wal
open Go.RowKit Go.Proofs.YtalhdalinpdanaaGreatDoor Go.Proofs.YtalhdalinpdanaaGreatDoor.frame Go.Proofs.YtalhdalinpdanaaGreatDoor.disk
set_option maxRecDepth 20000
abbrev RI (ks:List Int):World→(Nat→Prop)→Option Addr→Prop:=fun w S A=>IntsIn .i64 w S A ks
theorem keeps_ri (ks:List Int):Keeps3 (RI ks):=fun w w' S S' b h ha hs=>IntsIn.keep h ha.alike hs
theorem one_int {w:World} {g:Nat} {Q:Nat→Prop} {e:TypeId} (hg:w.heap[g]?=some (.cells #[.int .i64 65536] e (0,0))) (hq:Q g):IntsIn .i64 w Q (some ⟨g,0,none⟩) [65536] :=
 ⟨fun x hx=>by rw [List.mem_singleton.1 hx];rfl,fun _=>⟨g,0,rfl,hq,fun j hj=>by
  obtain rfl:j=0:=by simp only [List.length_singleton] at hj;omega
  exact (block_cell hg 0 _ rfl).1⟩⟩
section
variable {P:Program} {w0 W:World} {D:List Fact} {S:Nat→Prop} {u u2:Dv} {t t2:DiskD}
theorem build_dat {β:Type} {R:World→(Nat→Prop)→β→Prop} {r' : β→Value} {m:Sem Value} {cs:Array Value} {e:TypeId} (hF:Fixed w0 D S W) (b:Nat→β) (h:(newOf P m).map (fun x=>(x.1,x.2.1))=some (cs,e)) (hk:∀ g,(newOf P m).bind (fun x=>x.2.2 g)=some (r' (b g)))
  (hR:∀ w g (Q:Nat→Prop),w.heap[g]?=some (.cells cs e (0,0))→Q g→R w Q (b g)):StepM P w0 D m (fun _=>False) (Dat R S W) (fun x=>r' x.1.2.2) (fun x=>[poolF x.1.1 x.1.2.1]):=fun w hw ha=>by
 obtain ⟨x,w',h1,h2,h3⟩:=build_step2 (w0:=w0) (D:=D) h hk w hw ha
 have hb:=h3.all.1
 simp only [cellsF] at hb
 have hy:=h3.young (cellsF x cs e) (by simp) x rfl
 obtain ⟨f1,f2⟩:=hF w hw ha
 refine ⟨⟨(w',(fun k=>k=x),b x),hR w' x _ hb (.inr rfl),fun k hk=>?_,fun k hk=>?_⟩,w',h1,h2,news_one (fun k _=>rfl) (poolF_stable _ _) (fun k hk=>?_)⟩
 ·exact (h2.block k (f2 k hk) id).trans (f1 k hk)
 ·have e:k=x:=hk
  subst e;exact hy.2
 ·have e:k=x:=hk
  subst e;exact hy
theorem conv_u8 {src dst:TypeId} {k1 k2:IntKind} {n:Int} (hs:(P.underlying src).isSome=true) (hd:P.underlying dst=some (.int k2)) (h:k2.wrap n=n):Yields0 P w0 D (convert src dst (.int k1 n)) (.int k2 n):=fun w _ _=>by
 have hk:P.intKind dst=k2:=by simp [Program.intKind,hd]
 rw [run_convert_int w src dst k1 n hs (by rw [hk];exact hd),hk,h]
theorem rem_12 {T:TypeId} {a:Nat} (ox oy:Operand):Yields0 P w0 D (do eqGuard .rem T ox oy (.int .i64 (a:Int)) (.int .i64 12);Go.binOp .rem T (.int .i64 (a:Int)) (.int .i64 12)) (.int .i64 ((a % 12:Nat):Int)):=fun w _ _=>by
 have e:Int.tmod (a:Int) 12=((a % 12:Nat):Int):=by rw [show (12:Int)=((12:Nat):Int) from rfl,Int.ofNat_tmod]
 have e1:eqGuard .rem T ox oy (.int .i64 (a:Int)) (.int .i64 12)=pure ():=rfl
 have e2:Go.binOp .rem T (.int .i64 (a:Int)) (.int .i64 12)=Op.intDiv .rem .i64 (a:Int) 12:=by simp [Go.binOp]
 rw [e1,Sem.run_bind,Sem.run_pure,Result.andThen_ok,e2]
 unfold Op.intDiv
 rw [if_neg (by decide)]
 simp only [e]
 rfl
theorem InD.fz {w:World} {k:Nat} (h:InD w S u t):InD w S u ⟨t.files,t.room,((k % 12:Nat):Int),t.down⟩:=⟨h.f,h.m,h.l,h.c,h.r,by unfold inI;simp only;omega⟩
theorem g_rsame_de (e:t2=t) (hd:∀ w,Below w0.heap.size w0 w→All D w→InD w (Lt w.heap.size) u t2) (h2:∀ w,Below w0.heap.size w0 w→All D w→InD w (Lt w.heap.size) u2 t):Gives Tryz.prog w0 D 18 #[.agg (dc u t2),.agg (dc u2 t)] (.bool true):=by
 subst e;exact g_rsame_d hd h2
end
set_option maxHeartbeats 4000000 in
theorem walk1 (u:Dv) (t:DiskD) (b:Int) (q:Nat) (p3:Option Addr) (c3:Nat) (ks:List Int) (D1 X Z B2:DiskD) (fa ea ra we wn wu wg wc ve vn vu vg vc:Int) (L L3:List FrameD)  (w:World) (hd:InD w (Lt w.heap.size) u t) (hs:shortB t.files=true) (hk:IntsIn .i64 w (Lt w.heap.size) p3 ks) (hkc:ks.length≤c3) (hkm:c3≤maxLen) (hbi:inI b) (hq:q < 256)
  (hB1:backD t [65536] (-1)=(D1,fa)) (hs1:shortB D1.files=true) (hO1:openL D1 b=((⟨we,wn,wu,wg,wc,[]⟩:Wl),X,L,ea)) (hn:inI we∧inI wn∧inI wu∧inI wg∧inI wc) (hL:L.length≤1000) (hsX:shortB X.files=true)
  (hO3:openL (⟨D1.files,D1.room,((q % 12:Nat):Int),D1.down⟩:DiskD) b=((⟨ve,vn,vu,vg,vc,[]⟩:Wl),Z,L3,ra)) (hsC:shortB (⟨D1.files,D1.room,((q % 12:Nat):Int),D1.down⟩:DiskD).files=true) (hsZ:shortB Z.files=true) (hsB:shortB B2.files=true) (hX:fa=0→¬ ea=0→X=D1)
  (hA:fa=0→ea=0→openL X b=((⟨we,wn,wu,wg,wc,[]⟩:Wl),X,L,0)∧right (⟨we,wn,wu,wg,wc,[]⟩:Wl)=true∧(ra=0∨ra=9)∧backD Z ks (-1)=(B2,0)∧openL B2 b=((⟨we,wn,wu,wg,wc,[]⟩:Wl),X,L,0)) (ht:TabW w) (he:ErrVar w):Calls Tryz.prog 5 #[.agg (dc u t),.int .i64 b,.int .u8 (q:Int),.slice p3 ks.length c3] w fun e w'=>e = .returned (.bool true)∧Below w.heap.size w w' :=
 have hS:∀ k,Lt w.heap.size k→k < w.heap.size:=fun k hk=>hk
 calls_by (fn:=Tryz.f5) (r:=.bool true) (t:=let k0:=(⟨we,wn,wu,wg,wc,[]⟩:Wl);let k1:=(⟨none,0⟩:Jv);let k2:=(⟨ve,vn,vu,vg,vc,[]⟩:Wl);let k3:=RO (k0,X,L,0); .c (.bool true) (.c (.bool true) (.k (.s (.k (.k .z)) (.k (.s (.k .z) (.k (.s .z (.w (Dat (RI [65536]) (Lt w.heap.size) w) none (fun x=>.slice x.1.2.2 1 1) (fun x=>[poolF x.1.1 x.1.2.1]) (fun x4=>.cm (Dat (fun w S v=>InD w S v D1) (Un (Lt w.heap.size) x4.1.2.1) x4.1.1) (fun x=>.tuple #[.agg (dc x.1.2.2 D1),.int .i64 fa]) (fun x=>[poolF x.1.1 x.1.2.1]) (fun x5=>.s .z (.cm (Dat (RO (k0,X,L,ea)) (Un (Un (Lt w.heap.size) x4.1.2.1) x5.1.2.1) x5.1.1) (fun x=>.tuple #[.agg (jc k1 k0),.agg (dc x.1.2.2.1 X),.slice x.1.2.2.2.1 L.length x.1.2.2.2.2,.int .i64 ea]) (fun x=>[poolF x.1.1 x.1.2.1]) (fun x7=>.s (.c (.bool true) .z) (.cm (Dat k3 (Un (Un (Un (Lt w.heap.size) x4.1.2.1) x5.1.2.1) x7.1.2.1) x7.1.1) (fun x=>.tuple #[.agg (jc k1 k0),.agg (dc x.1.2.2.1 X),.slice x.1.2.2.2.1 L.length x.1.2.2.2.2,.int .i64 0]) (fun x=>[poolF x.1.1 x.1.2.1]) (fun x9=>.k (.k (.c (.bool true) (.k (.c (.bool true) (.k (.c (.bool true) (.k (.c (.bool true) (.x (.int .i64 (q:Int)) (.x (.int .i64 ((q % 12:Nat):Int)) (.cm (Dat (RO (k2,Z,L3,ra)) (Un (Un (Un (Un (Lt w.heap.size) x4.1.2.1) x5.1.2.1) x7.1.2.1) x9.1.2.1) x9.1.1) (fun x=>.tuple #[.agg (jc k1 k2),.agg (dc x.1.2.2.1 Z),.slice x.1.2.2.2.1 L3.length x.1.2.2.2.2,.int .i64 ra]) (fun x=>[poolF x.1.1 x.1.2.1]) (fun x10=>.s (.k (.s .z (.cm (Dat (fun w S v=>InD w S v B2) (Un (Un (Un (Un (Un (Lt w.heap.size) x4.1.2.1) x5.1.2.1) x7.1.2.1) x9.1.2.1) x10.1.2.1) x10.1.1) (fun x=>.tuple #[.agg (dc x.1.2.2 B2),.int .i64 0]) (fun x=>[poolF x.1.1 x.1.2.1]) (fun x13=>.cm (Dat k3 (Un (Un (Un (Un (Un (Un (Lt w.heap.size) x4.1.2.1) x5.1.2.1) x7.1.2.1) x9.1.2.1) x10.1.2.1) x13.1.2.1) x13.1.1) (fun x=>.tuple #[.agg (jc k1 k0),.agg (dc x.1.2.2.1 X),.slice x.1.2.2.2.1 L.length x.1.2.2.2.2,.int .i64 0]) (fun x=>[poolF x.1.1 x.1.2.1]) (fun x14=>.k (.k (.k (.k (.c (.bool true) (.k (.c (.bool true) (.k (.c (.bool true) .z))))))))))))) (.k (.cm (Dat (fun w S v=>InD w S v B2) (Un (Un (Un (Un (Un (Lt w.heap.size) x4.1.2.1) x5.1.2.1) x7.1.2.1) x9.1.2.1) x10.1.2.1) x10.1.1) (fun x=>.tuple #[.agg (dc x.1.2.2 B2),.int .i64 0]) (fun x=>[poolF x.1.1 x.1.2.1]) (fun x15=>.cm (Dat k3 (Un (Un (Un (Un (Un (Un (Lt w.heap.size) x4.1.2.1) x5.1.2.1) x7.1.2.1) x9.1.2.1) x10.1.2.1) x15.1.2.1) x15.1.1) (fun x=>.tuple #[.agg (jc k1 k0),.agg (dc x.1.2.2.1 X),.slice x.1.2.2.2.1 L.length x.1.2.2.2.2,.int .i64 0]) (fun x=>[poolF x.1.1 x.1.2.1]) (fun x16=>.k (.k (.k (.k (.c (.bool true) (.k (.c (.bool true) (.k (.c (.bool true) .z))))))))))))))))))))))))))))))))))))))) (X :=
 let k0:=(⟨we,wn,wu,wg,wc,[]⟩:Wl);let k1:=(.bool true:Value) = .bool true;let k2:=(⟨none,0⟩:Jv);let k3:=RO (k0,X,L,0);let k4:=(⟨ve,vn,vu,vg,vc,[]⟩:Wl);let k5:Array Value:=#[.agg (jc k2 k0),.agg (jc k2 k0)];let k6:=decide ((ks.length:Int) > 9);let k7:Value:=.int .i64 (q:Int);let k8 := !decide (t.fuse=(-1)); ∀ g0:Nat,Gives Tryz.prog w [] 9 #[] (.bool true)∧Gives Tryz.prog w [] 25 #[.agg (dc u t)] (.bool true)∧(k6=true→k1)∧(k6=false→(k8=true→k1)∧(k8=false→((decide (b > 1000000))=true→k1)∧((decide (b > 1000000))=false→StepM Tryz.prog w [] (Instr.buildSlice 59 1 #[(0,.int .i64 65536)]) (fun _=>False) (Dat (RI [65536]) (Lt w.heap.size) w) (fun x=>.slice x.1.2.2 1 1) (fun x=>[poolF x.1.1 x.1.2.1])∧∀ x4:Dat (RI [65536]) (Lt w.heap.size) w,GivesM Tryz.prog w [poolF x4.1.1 x4.1.2.1] 29 #[.agg (dc u t),.slice x4.1.2.2 1 1,.int .i64 (-1)] (Dat (fun w S v=>InD w S v D1) (Un (Lt w.heap.size) x4.1.2.1) x4.1.1) (fun x=>.tuple #[.agg (dc x.1.2.2 D1),.int .i64 fa]) (fun x=>[poolF x.1.1 x.1.2.1])∧∀ x5:Dat (fun w S v=>InD w S v D1) (Un (Lt w.heap.size) x4.1.2.1) x4.1.1,∀ g1:Nat,((!decide (fa=0))=true→k1)∧((!decide (fa=0))=false→GivesM Tryz.prog w [poolF x5.1.1 x5.1.2.1,poolF x4.1.1 x4.1.2.1] 26 #[.agg (dc x5.1.2.2 D1),.int .i64 b] (Dat (RO (k0,X,L,ea)) (Un (Un (Lt w.heap.size) x4.1.2.1) x5.1.2.1) x5.1.1) (fun x=>.tuple #[.agg (jc k2 k0),.agg (dc x.1.2.2.1 X),.slice x.1.2.2.2.1 L.length x.1.2.2.2.2,.int .i64 ea]) (fun x=>[poolF x.1.1 x.1.2.1])∧∀ x7:Dat (RO (k0,X,L,ea)) (Un (Un (Lt w.heap.size) x4.1.2.1) x5.1.2.1) x5.1.1,let k9:=dc x7.1.2.2.1 X;let k10:List Fact:=[poolF x7.1.1 x7.1.2.1,poolF x5.1.1 x5.1.2.1,poolF x4.1.1 x4.1.2.1];  ∀ g2:Nat,∀ g3:Nat,((!decide (ea=0))=true→Gives Tryz.prog w k10 18 #[.agg k9,.agg (dc x5.1.2.2 D1)] (.bool true)∧k1)∧((!decide (ea=0))=false→GivesM Tryz.prog w k10 26 #[.agg k9,.int .i64 b] (Dat k3 (Un (Un (Un (Lt w.heap.size) x4.1.2.1) x5.1.2.1) x7.1.2.1) x7.1.1) (fun x=>.tuple #[.agg (jc k2 k0),.agg (dc x.1.2.2.1 X),.slice x.1.2.2.2.1 L.length x.1.2.2.2.2,.int .i64 0]) (fun x=>[poolF x.1.1 x.1.2.1])∧∀ x9:Dat k3 (Un (Un (Un (Lt w.heap.size) x4.1.2.1) x5.1.2.1) x7.1.2.1) x7.1.1,∀ g4:Nat,let k11:List Fact:=[poolF x9.1.1 x9.1.2.1,poolF x7.1.1 x7.1.2.1,poolF x5.1.1 x5.1.2.1,poolF x4.1.1 x4.1.2.1];  ∀ g5:Nat,Gives Tryz.prog w k11 18 #[.agg k9,.agg (dc x9.1.2.2.1 X)] (.bool true)∧Gives Tryz.prog w k11 15 k5 (.bool true)∧Gives Tryz.prog w k11 28 #[.slice x7.1.2.2.2.1 L.length x7.1.2.2.2.2,.slice x9.1.2.2.2.1 L.length x9.1.2.2.2.2] (.bool true)∧Gives Tryz.prog w k11 13 #[.agg (jc k2 k0)] (.bool true)∧∀ g6:Nat,Yields0 Tryz.prog w k11 (convert 5 3 (.int .u8 (q:Int))) k7∧Yields0 Tryz.prog w k11 (do eqGuard BinOp.rem 3 (.tmp 104) (.const (.int .i64 12)) k7 (.int .i64 12);Go.binOp BinOp.rem 3 k7 (.int .i64 12)) (.int .i64 ((q % 12:Nat):Int))∧GivesM Tryz.prog w k11 26 #[.agg (dc x5.1.2.2 (⟨D1.files,D1.room,((q % 12:Nat):Int),D1.down⟩:DiskD)),.int .i64 b] (Dat (RO (k4,Z,L3,ra)) (Un (Un (Un (Un (Lt w.heap.size) x4.1.2.1) x5.1.2.1) x7.1.2.1) x9.1.2.1) x9.1.1) (fun x=>.tuple #[.agg (jc k2 k4),.agg (dc x.1.2.2.1 Z),.slice x.1.2.2.2.1 L3.length x.1.2.2.2.2,.int .i64 ra]) (fun x=>[poolF x.1.1 x.1.2.1])∧∀ x10:Dat (RO (k4,Z,L3,ra)) (Un (Un (Un (Un (Lt w.heap.size) x4.1.2.1) x5.1.2.1) x7.1.2.1) x9.1.2.1) x9.1.1,∀ g7:Nat,let k12:List Fact:=[poolF x10.1.1 x10.1.2.1,poolF x9.1.1 x9.1.2.1,poolF x7.1.1 x7.1.2.1,poolF x5.1.1 x5.1.2.1,poolF x4.1.1 x4.1.2.1];let k13:Array Value:=#[.agg (dc x10.1.2.2.1 Z),.slice p3 ks.length c3,.int .i64 (-1)];  ∀ g8:Nat,((!decide (ra=0))=true→((!decide (ra=9))=true→((.bool false:Value) = .bool true))∧((!decide (ra=9))=false→GivesM Tryz.prog w k12 29 k13 (Dat (fun w S v=>InD w S v B2) (Un (Un (Un (Un (Un (Lt w.heap.size) x4.1.2.1) x5.1.2.1) x7.1.2.1) x9.1.2.1) x10.1.2.1) x10.1.1) (fun x=>.tuple #[.agg (dc x.1.2.2 B2),.int .i64 0]) (fun x=>[poolF x.1.1 x.1.2.1])∧∀ x13:Dat (fun w S v=>InD w S v B2) (Un (Un (Un (Un (Un (Lt w.heap.size) x4.1.2.1) x5.1.2.1) x7.1.2.1) x9.1.2.1) x10.1.2.1) x10.1.1,∀ g9:Nat,let k14:=Un (Un (Un (Un (Un (Un (Lt w.heap.size) x4.1.2.1) x5.1.2.1) x7.1.2.1) x9.1.2.1) x10.1.2.1) x13.1.2.1;GivesM Tryz.prog w [poolF x13.1.1 x13.1.2.1,poolF x10.1.1 x10.1.2.1,poolF x9.1.1 x9.1.2.1,poolF x7.1.1 x7.1.2.1,poolF x5.1.1 x5.1.2.1,poolF x4.1.1 x4.1.2.1] 26 #[.agg (dc x13.1.2.2 B2),.int .i64 b] (Dat k3 k14 x13.1.1) (fun x=>.tuple #[.agg (jc k2 k0),.agg (dc x.1.2.2.1 X),.slice x.1.2.2.2.1 L.length x.1.2.2.2.2,.int .i64 0]) (fun x=>[poolF x.1.1 x.1.2.1])∧∀ x14:Dat k3 k14 x13.1.1,let k15:List Fact:=[poolF x14.1.1 x14.1.2.1,poolF x13.1.1 x13.1.2.1,poolF x10.1.1 x10.1.2.1,poolF x9.1.1 x9.1.2.1,poolF x7.1.1 x7.1.2.1,poolF x5.1.1 x5.1.2.1,poolF x4.1.1 x4.1.2.1];  ∀ g10:Nat,Gives Tryz.prog w k15 15 k5 (.bool true)∧Gives Tryz.prog w k15 28 #[.slice x14.1.2.2.2.1 L.length x14.1.2.2.2.2,.slice x7.1.2.2.2.1 L.length x7.1.2.2.2.2] (.bool true)∧Gives Tryz.prog w k15 18 #[.agg (dc x14.1.2.2.1 X),.agg k9] (.bool true)∧k1))∧((!decide (ra=0))=false→GivesM Tryz.prog w k12 29 k13 (Dat (fun w S v=>InD w S v B2) (Un (Un (Un (Un (Un (Lt w.heap.size) x4.1.2.1) x5.1.2.1) x7.1.2.1) x9.1.2.1) x10.1.2.1) x10.1.1) (fun x=>.tuple #[.agg (dc x.1.2.2 B2),.int .i64 0]) (fun x=>[poolF x.1.1 x.1.2.1])∧∀ x15:Dat (fun w S v=>InD w S v B2) (Un (Un (Un (Un (Un (Lt w.heap.size) x4.1.2.1) x5.1.2.1) x7.1.2.1) x9.1.2.1) x10.1.2.1) x10.1.1,∀ g9:Nat,let k16:=Un (Un (Un (Un (Un (Un (Lt w.heap.size) x4.1.2.1) x5.1.2.1) x7.1.2.1) x9.1.2.1) x10.1.2.1) x15.1.2.1;GivesM Tryz.prog w [poolF x15.1.1 x15.1.2.1,poolF x10.1.1 x10.1.2.1,poolF x9.1.1 x9.1.2.1,poolF x7.1.1 x7.1.2.1,poolF x5.1.1 x5.1.2.1,poolF x4.1.1 x4.1.2.1] 26 #[.agg (dc x15.1.2.2 B2),.int .i64 b] (Dat k3 k16 x15.1.1) (fun x=>.tuple #[.agg (jc k2 k0),.agg (dc x.1.2.2.1 X),.slice x.1.2.2.2.1 L.length x.1.2.2.2.2,.int .i64 0]) (fun x=>[poolF x.1.1 x.1.2.1])∧∀ x16:Dat k3 k16 x15.1.1,let k17:List Fact:=[poolF x16.1.1 x16.1.2.1,poolF x15.1.1 x15.1.2.1,poolF x10.1.1 x10.1.2.1,poolF x9.1.1 x9.1.2.1,poolF x7.1.1 x7.1.2.1,poolF x5.1.1 x5.1.2.1,poolF x4.1.1 x4.1.2.1];  ∀ g10:Nat,Gives Tryz.prog w k17 15 k5 (.bool true)∧Gives Tryz.prog w k17 28 #[.slice x16.1.2.2.2.1 L.length x16.1.2.2.2.2,.slice x7.1.2.2.2.1 L.length x7.1.2.2.2.2] (.bool true)∧Gives Tryz.prog w k17 18 #[.agg (dc x16.1.2.2.1 X),.agg k9] (.bool true)∧k1))))))) Tryz.func5 (by kernel_rfl)
 (fun g0=>⟨(fun w1 hw _=>awake12 w1 (var_later ht hw) (ev_later he hw)),⟨(fun w1 hw _=>by have:=d_rshort (hd.later hw);rw [hs] at this;exact this),⟨fun h1=>have h1:9 < (ks.length:Int):=(by simpa using h1)
 rfl,
 fun h1=>have h1:¬ 9 < (ks.length:Int):=(by simpa using h1)
⟨fun h2=>have h2:¬ t.fuse=(-1):=(by simpa using h2)
 rfl,
 fun h2=>have h2:t.fuse=(-1):=(by simpa using h2)
⟨fun h3=>have h3:1000000 < b:=(by simpa using h3)
 rfl,
 fun h3=>have h3:¬ 1000000 < b:=(by simpa using h3)
⟨(build_dat (R:=RI [65536]) (r':=fun A=>.slice A 1 1) (e:=3) (fixed_low (fun k hk=>hk)) (fun g=>some ⟨g,0,none⟩) (by kernel_rfl) (fun g=>by kernel_rfl) (fun w2 g Q hg hq=>one_int hg hq)),fun x4=>⟨(g_back (ks:=[65536]) (r:=(D1,fa)) hB1 (fixed_next (fixed_low (fun k hk=>hk)) x4 (i:=0) rfl) (fun w1 hw _=>((hd.keep (low_alike hS hw) (fun _ h=>h)).more (fun _ h=>.inl h))) hs (fun w1 hw ha=>dat_in (keeps_ri _) (fixed_low (fun k hk=>hk)) x4 (i:=0) rfl w1 hw ha) (by decide) (by unfold maxLen;omega) (by decide) (by unfold inI;omega)),fun x5=>fun g1=>⟨fun h6=>have h6:¬ fa=0:=(by simpa using h6)
 rfl,
 fun h6=>have h6:fa=0:=(by simpa using h6)
⟨(g_wopen (r:=((⟨we,wn,wu,wg,wc,[]⟩:Wl),X,L,ea)) hO1 (fixed_next (fixed_next (fixed_low (fun k hk=>hk)) x4 (i:=1) rfl) x5 (i:=0) rfl) (fun w1 hw ha=>((dat_in (keeps_d D1) (fixed_next (fixed_low (fun k hk=>hk)) x4 (i:=1) rfl) x5 (i:=0) rfl w1 hw ha))) hs1 hbi ht he),fun x7=>fun g2=>fun g3=>⟨fun h8=>have h8:¬ ea=0:=(by simpa using h8)
⟨(g_rsame_de (hX h6 h8) (fun w1 hw ha=>(dat_all (keeps_o _) (fixed_next (fixed_next (fixed_low (fun k hk=>hk)) x4 (i:=2) rfl) x5 (i:=1) rfl) x7 (i:=0) rfl w1 hw ha).1) (fun w1 hw ha=>(dat_all (keeps_d D1) (fixed_next (fixed_low (fun k hk=>hk)) x4 (i:=2) rfl) x5 (i:=1) rfl w1 hw ha))),rfl⟩,
 fun h8=>have h8:ea=0:=(by simpa using h8)
⟨(g_wopen (r:=((⟨we,wn,wu,wg,wc,[]⟩:Wl),X,L,0)) (hA h6 h8).1 (fixed_next (fixed_next (fixed_next (fixed_low (fun k hk=>hk)) x4 (i:=2) rfl) x5 (i:=1) rfl) x7 (i:=0) rfl) (fun w1 hw ha=>((dat_in (keeps_o _) (fixed_next (fixed_next (fixed_low (fun k hk=>hk)) x4 (i:=2) rfl) x5 (i:=1) rfl) x7 (i:=0) rfl w1 hw ha).1)) hsX hbi ht he),fun x9=>fun g4=>fun g5=>⟨(g_rsame_d (fun w1 hw ha=>(dat_all (keeps_o _) (fixed_next (fixed_next (fixed_low (fun k hk=>hk)) x4 (i:=3) rfl) x5 (i:=2) rfl) x7 (i:=1) rfl w1 hw ha).1) (fun w1 hw ha=>(dat_all (keeps_o _) (fixed_next (fixed_next (fixed_next (fixed_low (fun k hk=>hk)) x4 (i:=3) rfl) x5 (i:=2) rfl) x7 (i:=1) rfl) x9 (i:=0) rfl w1 hw ha).1)),⟨(g_rsame_j (fun w1 _ _=>nil_j hn) (fun w1 _ _=>nil_j hn) (Nat.zero_le _)),⟨(g_rsame_f (fun w1 hw ha=>(dat_all (keeps_o _) (fixed_next (fixed_next (fixed_low (fun k hk=>hk)) x4 (i:=3) rfl) x5 (i:=2) rfl) x7 (i:=1) rfl w1 hw ha).2.1) (fun w1 hw ha=>(dat_all (keeps_o _) (fixed_next (fixed_next (fixed_next (fixed_low (fun k hk=>hk)) x4 (i:=3) rfl) x5 (i:=2) rfl) x7 (i:=1) rfl) x9 (i:=0) rfl w1 hw ha).2.1) hL),⟨(g_wright (hA h6 h8).2.1 (fun w1 _ _=>nil_j hn)),fun g6=>⟨(conv_u8 rfl (by kernel_rfl) (by rw [IntKind.wrap_i64];omega)),⟨(rem_12 _ _),⟨(g_wopen (r:=((⟨ve,vn,vu,vg,vc,[]⟩:Wl),Z,L3,ra)) hO3 (fixed_next (fixed_next (fixed_next (fixed_next (fixed_low (fun k hk=>hk)) x4 (i:=3) rfl) x5 (i:=2) rfl) x7 (i:=1) rfl) x9 (i:=0) rfl) (fun w1 hw ha=>((((dat_in (keeps_d D1) (fixed_next (fixed_low (fun k hk=>hk)) x4 (i:=3) rfl) x5 (i:=2) rfl w1 hw ha).fz).more (fun _ h=>.inl h)).more (fun _ h=>.inl h))) hsC hbi ht he),fun x10=>fun g7=>fun g8=>⟨fun h11=>have h11:¬ ra=0:=(by simpa using h11)
⟨fun h12=>have h12:¬ ra=9:=(by simpa using h12)
(by exfalso;have:=(hA h6 h8).2.2.1;omega),
 fun h12=>have h12:ra=9:=(by simpa using h12)
⟨(g_back (ks:=ks) (r:=(B2,0)) (hA h6 h8).2.2.2.1 (fixed_next (fixed_next (fixed_next (fixed_next (fixed_next (fixed_low (fun k hk=>hk)) x4 (i:=4) rfl) x5 (i:=3) rfl) x7 (i:=2) rfl) x9 (i:=1) rfl) x10 (i:=0) rfl) (fun w1 hw ha=>((dat_in (keeps_o _) (fixed_next (fixed_next (fixed_next (fixed_next (fixed_low (fun k hk=>hk)) x4 (i:=4) rfl) x5 (i:=3) rfl) x7 (i:=2) rfl) x9 (i:=1) rfl) x10 (i:=0) rfl w1 hw ha).1)) hsZ (fun w1 hw ha=>(IntsIn.keep (IntsIn.keep (IntsIn.keep (IntsIn.keep (IntsIn.keep (IntsIn.keep hk (low_alike (fun _ h=>h) hw) (fun _ h=>h)) (alike_refl _ _) (fun _ h=>.inl h)) (alike_refl _ _) (fun _ h=>.inl h)) (alike_refl _ _) (fun _ h=>.inl h)) (alike_refl _ _) (fun _ h=>.inl h)) (alike_refl _ _) (fun _ h=>.inl h))) hkc hkm (by omega) (by unfold inI;omega)),fun x13=>fun g9=>⟨(g_wopen (r:=((⟨we,wn,wu,wg,wc,[]⟩:Wl),X,L,0)) (hA h6 h8).2.2.2.2 (fixed_next (fixed_next (fixed_next (fixed_next (fixed_next (fixed_next (fixed_low (fun k hk=>hk)) x4 (i:=5) rfl) x5 (i:=4) rfl) x7 (i:=3) rfl) x9 (i:=2) rfl) x10 (i:=1) rfl) x13 (i:=0) rfl) (fun w1 hw ha=>((dat_in (keeps_d B2) (fixed_next (fixed_next (fixed_next (fixed_next (fixed_next (fixed_low (fun k hk=>hk)) x4 (i:=5) rfl) x5 (i:=4) rfl) x7 (i:=3) rfl) x9 (i:=2) rfl) x10 (i:=1) rfl) x13 (i:=0) rfl w1 hw ha))) hsB hbi ht he),fun x14=>fun g10=>⟨(g_rsame_j (fun w1 _ _=>nil_j hn) (fun w1 _ _=>nil_j hn) (Nat.zero_le _)),⟨(g_rsame_f (fun w1 hw ha=>(dat_all (keeps_o _) (fixed_next (fixed_next (fixed_next (fixed_next (fixed_next (fixed_next (fixed_low (fun k hk=>hk)) x4 (i:=6) rfl) x5 (i:=5) rfl) x7 (i:=4) rfl) x9 (i:=3) rfl) x10 (i:=2) rfl) x13 (i:=1) rfl) x14 (i:=0) rfl w1 hw ha).2.1) (fun w1 hw ha=>(dat_all (keeps_o _) (fixed_next (fixed_next (fixed_low (fun k hk=>hk)) x4 (i:=6) rfl) x5 (i:=5) rfl) x7 (i:=4) rfl w1 hw ha).2.1) hL),⟨(g_rsame_d (fun w1 hw ha=>(dat_all (keeps_o _) (fixed_next (fixed_next (fixed_next (fixed_next (fixed_next (fixed_next (fixed_low (fun k hk=>hk)) x4 (i:=6) rfl) x5 (i:=5) rfl) x7 (i:=4) rfl) x9 (i:=3) rfl) x10 (i:=2) rfl) x13 (i:=1) rfl) x14 (i:=0) rfl w1 hw ha).1) (fun w1 hw ha=>(dat_all (keeps_o _) (fixed_next (fixed_next (fixed_low (fun k hk=>hk)) x4 (i:=6) rfl) x5 (i:=5) rfl) x7 (i:=4) rfl w1 hw ha).1)),rfl⟩⟩⟩⟩⟩⟩,
 fun h11=>have h11:ra=0:=(by simpa using h11)
⟨(g_back (ks:=ks) (r:=(B2,0)) (hA h6 h8).2.2.2.1 (fixed_next (fixed_next (fixed_next (fixed_next (fixed_next (fixed_low (fun k hk=>hk)) x4 (i:=4) rfl) x5 (i:=3) rfl) x7 (i:=2) rfl) x9 (i:=1) rfl) x10 (i:=0) rfl) (fun w1 hw ha=>((dat_in (keeps_o _) (fixed_next (fixed_next (fixed_next (fixed_next (fixed_low (fun k hk=>hk)) x4 (i:=4) rfl) x5 (i:=3) rfl) x7 (i:=2) rfl) x9 (i:=1) rfl) x10 (i:=0) rfl w1 hw ha).1)) hsZ (fun w1 hw ha=>(IntsIn.keep (IntsIn.keep (IntsIn.keep (IntsIn.keep (IntsIn.keep (IntsIn.keep hk (low_alike (fun _ h=>h) hw) (fun _ h=>h)) (alike_refl _ _) (fun _ h=>.inl h)) (alike_refl _ _) (fun _ h=>.inl h)) (alike_refl _ _) (fun _ h=>.inl h)) (alike_refl _ _) (fun _ h=>.inl h)) (alike_refl _ _) (fun _ h=>.inl h))) hkc hkm (by omega) (by unfold inI;omega)),fun x15=>fun g9=>⟨(g_wopen (r:=((⟨we,wn,wu,wg,wc,[]⟩:Wl),X,L,0)) (hA h6 h8).2.2.2.2 (fixed_next (fixed_next (fixed_next (fixed_next (fixed_next (fixed_next (fixed_low (fun k hk=>hk)) x4 (i:=5) rfl) x5 (i:=4) rfl) x7 (i:=3) rfl) x9 (i:=2) rfl) x10 (i:=1) rfl) x15 (i:=0) rfl) (fun w1 hw ha=>((dat_in (keeps_d B2) (fixed_next (fixed_next (fixed_next (fixed_next (fixed_next (fixed_low (fun k hk=>hk)) x4 (i:=5) rfl) x5 (i:=4) rfl) x7 (i:=3) rfl) x9 (i:=2) rfl) x10 (i:=1) rfl) x15 (i:=0) rfl w1 hw ha))) hsB hbi ht he),fun x16=>fun g10=>⟨(g_rsame_j (fun w1 _ _=>nil_j hn) (fun w1 _ _=>nil_j hn) (Nat.zero_le _)),⟨(g_rsame_f (fun w1 hw ha=>(dat_all (keeps_o _) (fixed_next (fixed_next (fixed_next (fixed_next (fixed_next (fixed_next (fixed_low (fun k hk=>hk)) x4 (i:=6) rfl) x5 (i:=5) rfl) x7 (i:=4) rfl) x9 (i:=3) rfl) x10 (i:=2) rfl) x15 (i:=1) rfl) x16 (i:=0) rfl w1 hw ha).2.1) (fun w1 hw ha=>(dat_all (keeps_o _) (fixed_next (fixed_next (fixed_low (fun k hk=>hk)) x4 (i:=6) rfl) x5 (i:=5) rfl) x7 (i:=4) rfl w1 hw ha).2.1) hL),⟨(g_rsame_d (fun w1 hw ha=>(dat_all (keeps_o _) (fixed_next (fixed_next (fixed_next (fixed_next (fixed_next (fixed_next (fixed_low (fun k hk=>hk)) x4 (i:=6) rfl) x5 (i:=5) rfl) x7 (i:=4) rfl) x9 (i:=3) rfl) x10 (i:=2) rfl) x15 (i:=1) rfl) x16 (i:=0) rfl w1 hw ha).1) (fun w1 hw ha=>(dat_all (keeps_o _) (fixed_next (fixed_next (fixed_low (fun k hk=>hk)) x4 (i:=6) rfl) x5 (i:=5) rfl) x7 (i:=4) rfl w1 hw ha).1)),rfl⟩⟩⟩⟩⟩⟩⟩⟩⟩⟩⟩⟩⟩⟩⟩⟩⟩⟩⟩⟩⟩⟩⟩⟩)
theorem walk2 (u:Dv) (t:DiskD) (b:Int) (q:Nat) (p3:Option Addr) (c3:Nat) (ks:List Int)  (w:World) (hd:InD w (Lt w.heap.size) u t) (hs:shortB t.files=false) (ht:TabW w) (he:ErrVar w):Calls Tryz.prog 5 #[.agg (dc u t),.int .i64 b,.int .u8 (q:Int),.slice p3 ks.length c3] w fun e w'=>e = .returned (.bool true)∧Below w.heap.size w w' :=
 calls_by (fn:=Tryz.f5) (r:=.bool true) (t:=.c (.bool true) (.c (.bool false) (.k (.k (.k .z))))) (X :=
∀ g0:Nat,Gives Tryz.prog w [] 9 #[] (.bool true)∧Gives Tryz.prog w [] 25 #[.agg (dc u t)] (.bool false)∧((.bool true:Value) = .bool true)) Tryz.func5 (by kernel_rfl)
 (fun g0=>⟨(fun w1 hw _=>awake12 w1 (var_later ht hw) (ev_later he hw)),⟨(fun w1 hw _=>by have:=d_rshort (hd.later hw);rw [hs] at this;exact this),rfl⟩⟩)
theorem back_short {t:DiskD} {keep:List Int} {f:Int} (hs:shortB t.files=true):shortB (backD t keep f).1.files=true:=by
 cases hr:rightB t with
 |true=>exact right_short (right_back hr)
 |false=>unfold backD;rw [if_neg (by rw [hr];simp)];exact hs
theorem open_short {t:DiskD} {b:Int} (hs:shortB t.files=true):shortB (openL t b).2.1.files=true:=by
 by_cases h:opensL t b=0
 ·have hr:=opens_right h
  have hg:rightB (goneL t b).1=true:=by
   unfold goneL
   split
   ·exact removed_right (mend_right hr)
   ·exact mend_right hr
  unfold openL
  rw [if_neg (by omega)]
  split
  ·exact hs
  ·split
   ·exact right_short hg
   ·exact right_short hg
 ·rw [open_err h];exact hs
theorem back_plain {t D1:DiskD} {keep:List Int} {fa:Int} (h:backD t keep (-1)=(D1,fa)) (h0:fa=0):Plain D1∧Sures D1.files:=by
 cases hr:rightB t with
 |true =>
  have h1:=plain_back hr keep
  rw [h] at h1
  refine ⟨h1.2.1,?_⟩
  have h2:D1.files=backF keep t.files:=h1.2.2
  rw [h2];exact sures_back (right_files hr).2.1
 |false =>
  unfold backD at h
  rw [if_neg (by rw [hr];simp)] at h
  injection h with h1 h2
  omega
theorem walk0 (u:Dv) (t:DiskD) (b:Int) (q:Nat) (p3:Option Addr) (c3:Nat) (ks:List Int) (w:World) (hd:InD w (Lt w.heap.size) u t) (hbi:inI b) (hq:q < 256) (hk:IntsIn .i64 w (Lt w.heap.size) p3 ks) (hkc:ks.length≤c3) (hkm:c3≤maxLen) (ht:TabW w) (he:ErrVar w) :
  Calls Tryz.prog 5 #[.agg (dc u t),.int .i64 b,.int .u8 (q:Int),.slice p3 ks.length c3] w fun e w'=>e = .returned (.bool true)∧Below w.heap.size w w':=by
 cases hs:shortB t.files with
 |false=>exact walk2 u t b q p3 c3 ks w hd hs ht he
 |true =>
  obtain ⟨⟨D1,fa⟩,hB1⟩:∃ r,backD t [65536] (-1)=r:=⟨_,rfl⟩
  have hs1:shortB D1.files=true:=by have:=back_short (keep:=[65536]) (f := -1) hs;rw [hB1] at this;exact this
  obtain ⟨we,wn,wu,wg,wc,X,L,ea,hO1,hn,hL⟩:=open_in hbi hs1
  have hsX:shortB X.files=true:=by have:=open_short (b:=b) hs1;rw [hO1] at this;exact this
  have hsC:shortB (⟨D1.files,D1.room,((q % 12:Nat):Int),D1.down⟩:DiskD).files=true:=hs1
  obtain ⟨ve,vn,vu,vg,vc,Z,L3,ra,hO3,_,_⟩:=open_in (t:=⟨D1.files,D1.room,((q % 12:Nat):Int),D1.down⟩) hbi hsC
  have hsZ:shortB Z.files=true:=by have:=open_short (b:=b) hsC;rw [hO3] at this;exact this
  obtain ⟨B2,hB2⟩:∃ B2,(backD Z ks (-1)).1=B2:=⟨_,rfl⟩
  have hsB:shortB B2.files=true:=by rw [← hB2];exact back_short hsZ
  refine walk1 u t b q p3 c3 ks D1 X Z B2 fa ea ra we wn wu wg wc ve vn vu vg vc L L3 w hd hs hk hkc hkm hbi hq hB1 hs1 hO1 hn hL hsX hO3 hsC hsZ hsB (fun hf ha=>?_) (fun hf ha=>?_) ht he
  ·have:=again_err (b:=b) (back_plain hB1 hf).1 (by rw [hO1];exact ha)
   rw [hO1] at this;exact this
  ·obtain ⟨hp,hS⟩:=back_plain hB1 hf
   subst ha
   have h0:(openL D1 b).2.2.2=0:=by rw [hO1]
   obtain ⟨g1,g2⟩:=again_same hp h0
   obtain ⟨g3,g4⟩:=again_cut hp hS h0 (k:=((q % 12:Nat):Int)) (by omega)
   have g5:=g4 ks
   rw [hO3] at g3 g5
   simp only at g3 g5
   rw [hB2,hO1] at g5
   rw [hO1] at g1 g2
   exact ⟨g2,g1,g3,Prod.ext hB2 g5.1,g5.2⟩
end Go.Proofs.YtalhdalinpdanaaGreatDoor.wal
