/-
  WalLp, WalE
-/
import Derived.Test.YtalhdalinpdanaaGreatDoorMwl36
import Derived.Test.YtalhdalinpdanaaGreatDoorMwl45
import Derived.Test.YtalhdalinpdanaaGreatDoorMwl46
set_option linter.unusedVariables false
set_option linter.unusedSimpArgs false
section
namespace Go.Proofs.YtalhdalinpdanaaGreatDoor.wal
open Go.RowKit Go.Proofs.YtalhdalinpdanaaGreatDoor Go.Proofs.YtalhdalinpdanaaGreatDoor.frame Go.Proofs.YtalhdalinpdanaaGreatDoor.disk
set_option maxRecDepth 20000
theorem getD_in {α:Type} {xs:List α} {j:Nat} {z:α} (h:j < xs.length):xs.getD j z ∈ xs:=List.mem_of_getElem? (at_getD h)
theorem news_pool_nil {w0 w:World} {n:Nat} : News (fun _=>False) n [poolF w0 (fun _=>False),ownF rdFrame 9 72 none 0 0 ([])] w :=
 ⟨⟨fun _ h=>h.elim,OwnElems.nil,trivial⟩,fun f hf k hk=>by
  simp only [List.mem_cons,List.not_mem_nil,or_false] at hf
  rcases hf with rfl | rfl
  ·exact hk.elim
  ·simp [ownF,Value.ownBlock] at hk,by simp [ownF,Value.ownBlock],fun f hf=>by
  simp only [List.mem_cons,List.not_mem_nil,or_false] at hf
  rcases hf with rfl | rfl
  ·exact poolF_stable _ _
  ·exact ownF_stable keeps_frame⟩
abbrev RJ:World→(Nat→Prop)→Jv × Wl→Prop:=fun w S b=>InJ w S b.1 b.2
theorem keeps_rj:Keeps3 RJ:=fun w w' S S' b h ha hs=>InJ.keep h ha.alike hs
def lput:Nat→Wl→Int→Wl × List FrameD
 | 0,s,_=>(s,[])
 |m+1,s,f=>if (putW s 3 f 0 0 0 0 0).2=0∧(putW s 3 f 0 0 0 0 0).1.ws.length≠0 then
   ((lput m (putW s 3 f 0 0 0 0 0).1 (f+1)).1,(putW s 3 f 0 0 0 0 0).1.ws.getD ((putW s 3 f 0 0 0 0 0).1.ws.length - 1) frz :: (lput m (putW s 3 f 0 0 0 0 0).1 (f+1)).2) else (s,[])
structure LpI (s:Wl) (m:Nat) (f:Int) (k:Nat) (out:List FrameD) (t:Wl):Prop where
 i:k≤m
 l:out.length≤k
 e:lput m s f=((lput (m - k) t (f+(k:Int))).1,out++(lput (m - k) t (f+(k:Int))).2)
section
variable {s t:Wl} {m i:Nat} {f:Int} {out:List FrameD}
theorem lput_start:LpI s m f 0 [] s:=⟨Nat.zero_le _,Nat.le_refl _,by simp⟩
theorem lput_un (h:i < m):lput (m - i) t (f+(i:Int))=if (putW t 3 (f+(i:Int)) 0 0 0 0 0).2=0∧(putW t 3 (f+(i:Int)) 0 0 0 0 0).1.ws.length≠0 then
   ((lput (m - (i+1)) (putW t 3 (f+(i:Int)) 0 0 0 0 0).1 (f+((i+1:Nat):Int))).1,(putW t 3 (f+(i:Int)) 0 0 0 0 0).1.ws.getD ((putW t 3 (f+(i:Int)) 0 0 0 0 0).1.ws.length - 1) frz :: (lput (m - (i+1)) (putW t 3 (f+(i:Int)) 0 0 0 0 0).1 (f+((i+1:Nat):Int))).2) else (t,[]):=by
 obtain ⟨k,hk⟩:∃ k,m - i=k+1:=⟨m - i - 1,by omega⟩
 have e:f+((i+1:Nat):Int)=f+(i:Int)+1:=by push_cast;omega
 rw [show m - (i+1)=k by omega,e,hk]
 rfl
theorem lput_step (h:LpI s m f i out t) (hi:i < m) (he:(putW t 3 (f+(i:Int)) 0 0 0 0 0).2=0) (hn:(putW t 3 (f+(i:Int)) 0 0 0 0 0).1.ws.length≠0) :
  LpI s m f (i+1) (out++[(putW t 3 (f+(i:Int)) 0 0 0 0 0).1.ws.getD ((putW t 3 (f+(i:Int)) 0 0 0 0 0).1.ws.length - 1) frz]) (putW t 3 (f+(i:Int)) 0 0 0 0 0).1 :=
 ⟨hi,by rw [List.length_append];have:=h.l;simp only [List.length_singleton];omega,by rw [h.e,lput_un hi,if_pos ⟨he,hn⟩];simp⟩
theorem lput_stop (h:LpI s m f i out t) (hi:i < m) (hs:¬ (putW t 3 (f+(i:Int)) 0 0 0 0 0).2=0∨(putW t 3 (f+(i:Int)) 0 0 0 0 0).1.ws.length=0):lput m s f=(t,out):=by
 rw [h.e,lput_un hi,if_neg (fun hq=>hs.elim (fun h1=>h1 hq.1) hq.2)];simp
theorem lput_end (h:LpI s m f i out t) (hi:¬ i < m):lput m s f=(t,out):=by
 rw [h.e,show m - i=0 by omega];simp [lput]
end
abbrev RLP (r:Wl × List FrameD):World→(Nat→Prop)→Jv × (Option Addr × Nat)→Prop:=fun w S b=>InJ w S b.1 r.1∧Elems rdFrame 9 w S b.2.1 r.2∧r.2.length≤b.2.2∧b.2.2≤maxLen
theorem keeps_lp (r:Wl × List FrameD):Keeps3 (RLP r):=fun w w' S S' b h ha hs=>⟨InJ.keep h.1 ha.alike hs,h.2.1.keep keeps_frame ha.alike hs,h.2.2⟩
theorem q_lp {w0:World} {D:List Fact} {S:Nat→Prop} {s:Wl} {m:Nat} {f:Int} {v' : Jv} {t:Wl} {out:List FrameD} {A:Option Addr} {c:Nat} (hr:lput m s f=(t,out)) (hj:∀ w',Below w0.heap.size w0 w'→All D w'→(∀ f ∈ D,∀ k,f.S k→w0.heap.size≤k∧k < w'.heap.size)→InJ w' (Nw S w0 w') v' t)
  (ho:∀ w',Below w0.heap.size w0 w'→All D w'→(∀ f ∈ D,∀ k,f.S k→w0.heap.size≤k∧k < w'.heap.size)→Elems rdFrame 9 w' (Nw S w0 w') A out∧out.length≤c∧c≤maxLen) :
  ∃ x:Jv × (Option Addr × Nat),(.tuple #[.agg (jc v' t),.slice A out.length c]:Value) = .tuple #[.agg (jc x.1 (lput m s f).1),.slice x.2.1 (lput m s f).2.length x.2.2]∧Concl w0 D (fun w'=>RLP (lput m s f) w' (Nw S w0 w') x):=by
 rw [hr]
 exact ⟨(v',(A,c)),rfl,fun w' hb ha hy=>⟨hj w' hb ha hy,ho w' hb ha hy⟩⟩
theorem v_lput (v:Jv) (s:Wl) (m:Nat) (f:Int) (S:Nat→Prop)  (w:World) (h0:InJ w S v s) (hS:∀ k,S k→k < w.heap.size) (hm:m≤100) (hf:0≤f∧f≤1000):Calls Tryz.prog 30 #[.agg (jc v s),.int .i64 (m:Int),.int .i64 f] w fun e w' => ∃ x:Jv × (Option Addr × Nat),e = .returned (.tuple #[.agg (jc x.1 (lput m s f).1),.slice x.2.1 (lput m s f).2.length x.2.2])∧Below w.heap.size w w'∧(fun w'=>RLP (lput m s f) w' (Nw S w w') x) w' :=
 have h:=h0.all hS
 calls_q (fn:=Tryz.f30) (r:=fun (x:Jv × (Option Addr × Nat))=>.tuple #[.agg (jc x.1 (lput m s f).1),.slice x.2.1 (lput m s f).2.length x.2.2]) (Q:=fun (x:Jv × (Option Addr × Nat))=>fun w'=>RLP (lput m s f) w' (Nw S w w') x) (t:=let k0:=Nat × List FrameD × (Option Addr × Nat); .l (k0 × Dat RJ S w) (fun x=>[(1,.int .i64 (m:Int),none),(2,.int .i64 f,none),(3,undef,some (0,0)),(6,undef,some (1,0)),(8,.slice x.1.2.2.1 x.1.2.1.length x.1.2.2.2,none),(9,.int .i64 (x.1.1:Int),none)]) (fun x=>[(0,#[.int .i64 x.2.1.2.2.2.e,.int .i64 x.2.1.2.2.2.n,.int .i64 x.2.1.2.2.2.u,.int .i64 x.2.1.2.2.2.g,.int .i64 x.2.1.2.2.2.c,.slice x.2.1.2.2.1.A x.2.1.2.2.2.ws.length x.2.1.2.2.1.c])]) [0,1] [poolF w (fun _=>False),ownF rdFrame 9 72 none 0 0 ([])] (fun x=>[poolF x.2.1.1 x.2.1.2.1,ownF rdFrame 9 72 x.1.2.2.1 x.1.2.1.length x.1.2.2.2 x.1.2.1]) (fun x=>LpI s m f x.1.1 x.1.2.1 x.2.1.2.2.2) (fun x=>m - x.1.1) (((0,[],(none,0)),given_ (R:=RJ) (b:=(v,s)) h0 keeps_rj):k0 × Dat RJ S w) (fun y1=>let k1:=putW y1.2.1.2.2.2 3 (f+(y1.1.1:Int)) 0 0 0 0 0;let k2:=y1.1.2.1++[(k1.1.ws.getD (k1.1.ws.length - 1) frz)];let k3:=(k1.1.ws.length - 1:Nat);let k4:=fc ((k1.1.ws).getD k3 frz); .s (.e (.int .i64 (f+(y1.1.1:Int))) (.cm (Dat (fun w S v=>InJ w S v (k1.1)) (Un S y1.2.1.2.1) y1.2.1.1) (fun x=>.tuple #[.agg (jc x.1.2.2 (k1.1)),.int .i64 (k1.2)]) (fun x=>[poolF x.1.1 x.1.2.1]) (fun x5=>.s (.k .z) (.k (.s .z (.e (.int .i64 (k3:Int)) (.q (blkA x5.1.2.2.A) (offA x5.1.2.2.A+k3 * 9) k4 (.w (Nat) none (fun x=>.slice (some ⟨x,0,none⟩) 1 1) (fun x=>[cellsF x k4 72]) (fun x8=>.w (Option Addr × Nat) (some 3) (fun x=>.slice x.1 (k2.length) x.2) (fun x=>[ownF rdFrame 9 72 x.1 (k2.length) x.2 k2]) (fun x9=>.e (.int .i64 ((y1.1.1+1:Nat):Int)) .z)))))))))) .z)) (X :=
 let k2:=Option Addr × Nat;let k0:=Nat × List FrameD × k2;let k1:Array Value:=#[.int .i64 0,.int .i64 0,.int .i64 0,.int .i64 0,.int .i64 0,.slice none 0 0]; ∀ g0:Nat,let k3:Option Addr:=some ⟨g0,0,none⟩;  ∀ g1:Nat,let k4:Option Addr:=some ⟨g1,0,none⟩;Brings w [] [poolF w (fun _=>False),ownF rdFrame 9 72 none 0 0 ([])]∧(LpI s m f (((0,[],(none,0)),given_ (R:=RJ) (b:=(v,s)) h0 keeps_rj):k0 × Dat RJ S w).1.1 (((0,[],(none,0)),given_ (R:=RJ) (b:=(v,s)) h0 keeps_rj):k0 × Dat RJ S w).1.2.1 (((0,[],(none,0)),given_ (R:=RJ) (b:=(v,s)) h0 keeps_rj):k0 × Dat RJ S w).2.1.2.2.2)∧(([.int .i64 (m:Int),.int .i64 f,.pointer k3,.pointer k4,.slice none 0 0,.int .i64 0]:List Value)=[.int .i64 (m:Int),.int .i64 f,.pointer k3,.pointer k4,.slice ((((0,[],(none,0)),given_ (R:=RJ) (b:=(v,s)) h0 keeps_rj):k0 × Dat RJ S w).1.2.2.1) ((((0,[],(none,0)),given_ (R:=RJ) (b:=(v,s)) h0 keeps_rj):k0 × Dat RJ S w).1.2.1.length) ((((0,[],(none,0)),given_ (R:=RJ) (b:=(v,s)) h0 keeps_rj):k0 × Dat RJ S w).1.2.2.2),.int .i64 ((((0,[],(none,0)),given_ (R:=RJ) (b:=(v,s)) h0 keeps_rj):k0 × Dat RJ S w).1.1:Int)]∧([some ⟨g1,0,k1,.own 24⟩,some ⟨g0,0,(jc v s),.own 24⟩]:List (Option Blk))=[some ⟨g1,0,k1,.own 24⟩,some ⟨g0,0,#[.int .i64 ((((0,[],(none,0)),given_ (R:=RJ) (b:=(v,s)) h0 keeps_rj):k0 × Dat RJ S w).2.1.2.2.2.e),.int .i64 ((((0,[],(none,0)),given_ (R:=RJ) (b:=(v,s)) h0 keeps_rj):k0 × Dat RJ S w).2.1.2.2.2.n),.int .i64 ((((0,[],(none,0)),given_ (R:=RJ) (b:=(v,s)) h0 keeps_rj):k0 × Dat RJ S w).2.1.2.2.2.u),.int .i64 ((((0,[],(none,0)),given_ (R:=RJ) (b:=(v,s)) h0 keeps_rj):k0 × Dat RJ S w).2.1.2.2.2.g),.int .i64 ((((0,[],(none,0)),given_ (R:=RJ) (b:=(v,s)) h0 keeps_rj):k0 × Dat RJ S w).2.1.2.2.2.c),.slice ((((0,[],(none,0)),given_ (R:=RJ) (b:=(v,s)) h0 keeps_rj):k0 × Dat RJ S w).2.1.2.2.1.A) ((((0,[],(none,0)),given_ (R:=RJ) (b:=(v,s)) h0 keeps_rj):k0 × Dat RJ S w).2.1.2.2.2.ws.length) ((((0,[],(none,0)),given_ (R:=RJ) (b:=(v,s)) h0 keeps_rj):k0 × Dat RJ S w).2.1.2.2.1.c)],.own 24⟩]∧Turns w [poolF w (fun _=>False),ownF rdFrame 9 72 none 0 0 ([])] [poolF (((0,[],(none,0)),given_ (R:=RJ) (b:=(v,s)) h0 keeps_rj):k0 × Dat RJ S w).2.1.1 (((0,[],(none,0)),given_ (R:=RJ) (b:=(v,s)) h0 keeps_rj):k0 × Dat RJ S w).2.1.2.1,ownF rdFrame 9 72 ((((0,[],(none,0)),given_ (R:=RJ) (b:=(v,s)) h0 keeps_rj):k0 × Dat RJ S w).1.2.2.1) ((((0,[],(none,0)),given_ (R:=RJ) (b:=(v,s)) h0 keeps_rj):k0 × Dat RJ S w).1.2.1.length) ((((0,[],(none,0)),given_ (R:=RJ) (b:=(v,s)) h0 keeps_rj):k0 × Dat RJ S w).1.2.2.2) ((((0,[],(none,0)),given_ (R:=RJ) (b:=(v,s)) h0 keeps_rj):k0 × Dat RJ S w).1.2.1)])∧true=true∧∀ (y1:k0 × Dat RJ S w),let k11:=(y1.1.1:Int);let k5:=putW y1.2.1.2.2.2 3 (f+k11) 0 0 0 0 0;let k6:=y1.1.2.1++[(k5.1.ws.getD (k5.1.ws.length - 1) frz)];let k9:=(k5.1.ws.length - 1:Nat);let k7:=fc ((k5.1.ws).getD k9 frz);let k13:=jc y1.2.1.2.2.1 y1.2.1.2.2.2;let k8:=(.tuple #[.agg k13,.slice y1.1.2.2.1 y1.1.2.1.length y1.1.2.2.2]:Value);let k10:List Fact:=[poolF y1.2.1.1 y1.2.1.2.1,ownF rdFrame 9 72 y1.1.2.2.1 y1.1.2.1.length y1.1.2.2.2 y1.1.2.1];let k12:=((k5.1).ws.length:Int);let k14:=decide (k11 < (m:Int));let k15:=((y1.1.1+1:Nat):Int);(LpI s m f y1.1.1 y1.1.2.1 y1.2.1.2.2.2)→∀ τ3:Nat→Value,(k14=true→(.int .i64 (IntKind.i64.wrap (f+k11)):Value) = .int .i64 (f+k11)∧GivesM Tryz.prog w k10 11 #[.agg k13,.int .i64 3,.agg #[.int .i64 (f+k11),.int .i64 0,.int .i64 0,.int .i64 0,.int .i64 0,.int .i64 0]] (Dat (fun w S v=>InJ w S v (k5.1)) (Un S y1.2.1.2.1) y1.2.1.1) (fun x=>.tuple #[.agg (jc x.1.2.2 (k5.1)),.int .i64 (k5.2)]) (fun x=>[poolF x.1.1 x.1.2.1])∧∀ x5:Dat (fun w S v=>InJ w S v (k5.1)) (Un S y1.2.1.2.1) y1.2.1.1,let k16:List Fact:=[poolF x5.1.1 x5.1.2.1,poolF y1.2.1.1 y1.2.1.2.1,ownF rdFrame 9 72 y1.1.2.2.1 y1.1.2.1.length y1.1.2.2.2 y1.1.2.1];  ∀ g2:Nat,((!decide ((k5.2)=0))=true→∃ x:Jv × k2,k8 = .tuple #[.agg (jc x.1 (lput m s f).1),.slice x.2.1 (lput m s f).2.length x.2.2]∧Concl w k16 (fun w'=>RLP (lput m s f) w' (Nw S w w') x))∧((!decide ((k5.2)=0))=false→((decide (k12=0))=true→∃ x:Jv × k2,k8 = .tuple #[.agg (jc x.1 (lput m s f).1),.slice x.2.1 (lput m s f).2.length x.2.2]∧Concl w k16 (fun w'=>RLP (lput m s f) w' (Nw S w w') x))∧((decide (k12=0))=false→(.int .i64 (IntKind.i64.wrap (k12 - 1)):Value) = .int .i64 (k9:Int)∧Yields0 Tryz.prog w k16 (Instr.indexAt 22 (.slice x5.1.2.2.A ((k5.1).ws.length) x5.1.2.2.c) (.int .i64 (k9:Int))) (.pointer (some ⟨blkA x5.1.2.2.A,offA x5.1.2.2.A+k9 * 9,none⟩))∧Reads0 w k16 (blkA x5.1.2.2.A) (offA x5.1.2.2.A+k9 * 9) k7∧StepM Tryz.prog w k16 (Instr.buildSlice 22 1 #[(0,.agg k7)]) (fun _=>False) (Nat) (fun x=>.slice (some ⟨x,0,none⟩) 1 1) (fun x=>[cellsF x k7 72])∧∀ x8:Nat,StepM Tryz.prog w [cellsF x8 k7 72,poolF x5.1.1 x5.1.2.1,poolF y1.2.1.1 y1.2.1.2.1,ownF rdFrame 9 72 y1.1.2.2.1 y1.1.2.1.length y1.1.2.2.2 y1.1.2.1] (Builtin.append_ #[22,22] 22 #[.slice y1.1.2.2.1 y1.1.2.1.length y1.1.2.2.2,.slice (some ⟨x8,0,none⟩) 1 1]) ((ownF rdFrame 9 72 y1.1.2.2.1 y1.1.2.1.length y1.1.2.2.2 y1.1.2.1).S) k2 (fun x=>.slice x.1 (k6.length) x.2) (fun x=>[ownF rdFrame 9 72 x.1 (k6.length) x.2 k6])∧∀ x9:Option Addr × Nat,(.int .i64 (IntKind.i64.wrap (k11+1)):Value) = .int .i64 k15∧∃ x' : k0 × Dat RJ S w,(LpI s m f x'.1.1 x'.1.2.1 x'.2.1.2.2.2)∧(m - x'.1.1 < m - y1.1.1)∧(([.int .i64 (m:Int),.int .i64 f,.pointer k3,.pointer k4,.slice x9.1 (k6.length) x9.2,.int .i64 k15]:List Value)=[.int .i64 (m:Int),.int .i64 f,.pointer k3,.pointer k4,.slice x'.1.2.2.1 x'.1.2.1.length x'.1.2.2.2,.int .i64 (x'.1.1:Int)]∧([some ⟨g1,0,k1,.own 24⟩,some ⟨g0,0,(jc x5.1.2.2 (k5.1)),.own 24⟩]:List (Option Blk))=[some ⟨g1,0,k1,.own 24⟩,some ⟨g0,0,#[.int .i64 x'.2.1.2.2.2.e,.int .i64 x'.2.1.2.2.2.n,.int .i64 x'.2.1.2.2.2.u,.int .i64 x'.2.1.2.2.2.g,.int .i64 x'.2.1.2.2.2.c,.slice x'.2.1.2.2.1.A x'.2.1.2.2.2.ws.length x'.2.1.2.2.1.c],.own 24⟩]∧Turns w [ownF rdFrame 9 72 x9.1 (k6.length) x9.2 k6,cellsF x8 k7 72,poolF x5.1.1 x5.1.2.1,poolF y1.2.1.1 y1.2.1.2.1] [poolF x'.2.1.1 x'.2.1.2.1,ownF rdFrame 9 72 x'.1.2.2.1 x'.1.2.1.length x'.1.2.2.2 x'.1.2.1])∧true=true)))∧(k14=false→∃ x:Jv × k2,k8 = .tuple #[.agg (jc x.1 (lput m s f).1),.slice x.2.1 (lput m s f).2.length x.2.2]∧Concl w k10 (fun w'=>RLP (lput m s f) w' (Nw S w w') x))) Tryz.func30 (by kernel_rfl)
 (fun g0=>fun g1=>⟨(fun _ _ _=>news_pool_nil),lput_start,⟨rfl,rfl,(turns_sub (List.Sublist.refl _))⟩,rfl,fun y1 I2 τ3=>⟨fun h4=>have h4:(y1.1.1:Int) < (m:Int):=(by simpa using h4)
⟨wrap_is rfl (by have:=I2.i;omega) (by have:=I2.i;omega),⟨(g_wput (r:=(putW y1.2.1.2.2.2 3 (f+(y1.1.1:Int)) 0 0 0 0 0)) rfl (fixed_next (fixed_low hS) y1.2 (i:=0) rfl) (fun w1 hw ha=>((dat_in keeps_rj (fixed_low hS) y1.2 (i:=0) rfl w1 hw ha))) (by unfold inI;omega) ⟨by have:=I2.i;unfold inI;omega,by unfold inI;omega,by unfold inI;omega,by unfold inI;omega,by unfold inI;omega,by unfold inI;omega⟩),fun x5=>fun g2=>⟨fun h6=>have h6:¬ ((putW y1.2.1.2.2.2 3 (f+(y1.1.1:Int)) 0 0 0 0 0).2)=0:=(by simpa using h6)
(q_lp (lput_stop I2 (by omega) (.inl h6)) (fun w1 hb ha hy=>(dat_new keeps_rj (fixed_low hS) y1.2 (i:=1) rfl hb ha hy new_base)) (fun w1 hb1 ha hy=>row_reads (row_at (j:=2) rfl w1 ha) (fun q hq=>hy _ (List.mem_of_getElem? (i:=2) rfl) q hq))),
 fun h6=>have h6:((putW y1.2.1.2.2.2 3 (f+(y1.1.1:Int)) 0 0 0 0 0).2)=0:=(by simpa using h6)
⟨fun h7=>have h7:(((putW y1.2.1.2.2.2 3 (f+(y1.1.1:Int)) 0 0 0 0 0).1).ws.length:Int)=0:=(by simpa using h7)
(q_lp (lput_stop I2 (by omega) (.inr (by omega))) (fun w1 hb ha hy=>(dat_new keeps_rj (fixed_low hS) y1.2 (i:=1) rfl hb ha hy new_base)) (fun w1 hb1 ha hy=>row_reads (row_at (j:=2) rfl w1 ha) (fun q hq=>hy _ (List.mem_of_getElem? (i:=2) rfl) q hq))),
 fun h7=>have h7:¬ (((putW y1.2.1.2.2.2 3 (f+(y1.1.1:Int)) 0 0 0 0 0).1).ws.length:Int)=0:=(by simpa using h7)
⟨(by have h1:=x5.2.1.l;have h2:=x5.2.1.c;unfold maxLen at h2;exact wrap_is (by omega) (by omega) (by omega)),⟨(el_index Tryz.underlying22 info_frame (fun w1 hw ha=>⟨_,(dat_in (keeps_j _) (fixed_next (fixed_low hS) y1.2 (i:=1) rfl) x5 (i:=0) rfl w1 hw ha).f⟩) rfl (by omega)),(el_reads frame_cells (fun w1 hw ha=>⟨_,(dat_in (keeps_j _) (fixed_next (fixed_low hS) y1.2 (i:=1) rfl) x5 (i:=0) rfl w1 hw ha).f⟩) (at_getD (by omega))),⟨(build_step2 (by kernel_rfl) (fun g=>by kernel_rfl)),fun x8=>⟨(step_to2 (by simp) rfl (append_core keeps_frame leaf_frame (by decide) Tryz.underlying22 info_frame rfl (fun _ h=>h) (row_at (j:=3) rfl) (fun w _ ha=>one_elem (block_at (j:=0) rfl w ha) rfl ⟨rfl,fine_of x5.2.1.f _ (getD_in (by omega))⟩) rfl (by have:=I2.i;have:=I2.l;unfold maxLen;omega) (by have:=I2.i;have:=I2.l;omega) (fun h=>h))),fun x9=>⟨wrap_is (by omega) (by omega) (by have:=I2.i;omega),⟨(((y1.1.1+1,y1.1.2.1++[((putW y1.2.1.2.2.2 3 (f+(y1.1.1:Int)) 0 0 0 0 0).1.ws.getD ((putW y1.2.1.2.2.2 3 (f+(y1.1.1:Int)) 0 0 0 0 0).1.ws.length - 1) frz)],(x9.1,x9.2)),(turn (glue keeps_rj y1.2 (keeps_j _) x5) (fun b=>(b.2,((putW y1.2.1.2.2.2 3 (f+(y1.1.1:Int)) 0 0 0 0 0).1))) (fun _ _ _ h=>h.2))):(Nat × List FrameD × (Option Addr × Nat)) × Dat RJ S w),(lput_step I2 (by omega) h6 (by omega)),(by dsimp only;omega),⟨rfl,rfl,(turns_trans (turns_idx [2,3,0] (by decide) rfl) (turns_glue2 keeps_rj y1.2 (keeps_j _) x5))⟩,rfl⟩⟩⟩⟩⟩⟩⟩⟩⟩⟩,
 fun h4=>have h4:¬ (y1.1.1:Int) < (m:Int):=(by simpa using h4)
(q_lp (lput_end I2 (by omega)) (fun w1 hb ha hy=>(dat_new keeps_rj (fixed_low hS) y1.2 (i:=0) rfl hb ha hy new_base)) (fun w1 hb1 ha hy=>row_reads (row_at (j:=1) rfl w1 ha) (fun q hq=>hy _ (List.mem_of_getElem? (i:=1) rfl) q hq)))⟩⟩)
section
variable {S:Nat→Prop} {W:World} {α β γ:Type} {RA:World→(Nat→Prop)→α→Prop} {RB' : World→(Nat→Prop)→β→Prop} {RC:World→(Nat→Prop)→γ→Prop}
abbrev glue3 (ka:Keeps3 RA) (y:Dat RA S W) (kb:Keeps3 RB') (x1:Dat RB' (Un S y.1.2.1) y.1.1) (kc:Keeps3 RC) (x2:Dat RC (Un (Un S y.1.2.1) x1.1.2.1) x1.1.1):=glue ka y (keeps_and kb kc) (glue kb x1 kc x2)
theorem turns_three {w0:World} (ka:Keeps3 RA) (y:Dat RA S W) (kb:Keeps3 RB') (x1:Dat RB' (Un S y.1.2.1) y.1.1) (kc:Keeps3 RC) (x2:Dat RC (Un (Un S y.1.2.1) x1.1.2.1) x1.1.1) {E:List Fact} :
  Turns w0 (poolF x2.1.1 x2.1.2.1 :: poolF x1.1.1 x1.1.2.1 :: poolF y.1.1 y.1.2.1 :: E) (poolF (glue3 ka y kb x1 kc x2).1.1 (glue3 ka y kb x1 kc x2).1.2.1 :: E) :=
 turns_trans (turns_glue2 kb x1 kc x2) (turns_glue2 ka y (keeps_and kb kc) (glue kb x1 kc x2))
end
section
variable {w0 W:World} {D:List Fact} {S:Nat→Prop} {v:Jv} {s:Wl} {m:Nat} {f:Int}
theorem g_lput {r:Wl × List FrameD} (e:lput m s f=r) (hF:Fixed w0 D S W) (hj:∀ w,Below w0.heap.size w0 w→All D w→InJ w S v s) (hm:m≤100) (hf:0≤f∧f≤1000) :
  GivesM Tryz.prog w0 D 30 #[.agg (jc v s),.int .i64 (m:Int),.int .i64 f] (Dat (RLP r) S W) (fun x=>.tuple #[.agg (jc x.1.2.2.1 r.1),.slice x.1.2.2.2.1 r.2.length x.1.2.2.2.2]) (fun x=>[poolF x.1.1 x.1.2.1]):=by
 subst e
 exact gives_dat (R:=RLP (lput m s f)) (r:=fun b=>.tuple #[.agg (jc b.1 (lput m s f).1),.slice b.2.1 (lput m s f).2.length b.2.2]) hF (fun w hw ha=>v_lput v s m f S w (hj w hw ha) (hF w hw ha).2 hm hf)
end
end Go.Proofs.YtalhdalinpdanaaGreatDoor.wal
end
section
namespace Go.Proofs.YtalhdalinpdanaaGreatDoor.wal
set_option maxRecDepth 20000
open Go.RowKit Go.Proofs.YtalhdalinpdanaaGreatDoor Go.Proofs.YtalhdalinpdanaaGreatDoor.frame Go.Proofs.YtalhdalinpdanaaGreatDoor.disk
def gS (n:Nat):Int:=if n=0 then 0 else segN (many n - 1)
def cS (n:Nat):Int:=if n=0 then 0 else ((n - 8 * (many n - 1):Nat):Int)
theorem plain_of {d:DiskD} (h:rightB d=true):Plain ⟨d.files,d.room, -1,false⟩:=by
 obtain ⟨r1,_,r3⟩:=(right_iff d).1 h
 exact ⟨(right_iff _).2 ⟨r1,Int.le_refl _,r3⟩,rfl,rfl⟩
structure Wrote (s:Wl) (t:DiskD) (r:Wl × DiskD × Int):Prop where
 c : (r=(s,t,6))∨(r.1=s∧r.2.2=9∧r.2.1.down=true∧rightB r.2.1=true∧r.2.1.room=t.room∧r.2.1.files=appF t.files (nameOf (stepW s).g) (scan.put (s.ws.take (room s)))) ∨
  (r.1=stepW s∧r.2.2=0∧r.2.1.down=false∧rightB r.2.1=true∧r.2.1.room=t.room∧r.2.1.files=addF t.files (nameOf (stepW s).g) (scan.put (s.ws.take (room s))))
theorem sync_app {fs:List FileD} (hrow:Row fs) (nm:ByteArray) (b:List Nat):syncF (appF fs nm b) nm=addF fs nm b:=by
 unfold addF fileN syncF
 rw [old_appF hrow]
 unfold appF
 rw [with_with hrow (by exact rfl)]
 have hnm:=old_name nm fs
 simp only [hnm]
theorem wrote {s:Wl} {t:DiskD} (hr:rightB t=true) (hd:t.down=false):Wrote s t (writeW s t):=by
 have hrow:Row t.files:=(right_files hr).2.2.1
 have hn:=named_name (stepW s).g
 have hra:=right_append (nm:=nameOf (stepW s).g) (b:=scan.put (s.ws.take (room s))) hr
 have e0:firstE t (nameOf (stepW s).g) (nameOf (stepW s).g)=0:=by rw [first_up hr hd,hn];rfl
 refine ⟨?_⟩
 unfold writeW
 simp only
 unfold appendD at hra ⊢
 rcases op_cases t (nameOf (stepW s).g) (nameOf (stepW s).g) (appE t (nameOf (stepW s).g) (scan.put (s.ws.take (room s)))) (appF t.files (nameOf (stepW s).g) (scan.put (s.ws.take (room s)))) true with ⟨h1,e⟩ | ⟨_,h1,e⟩ | ⟨_,_,_,e⟩ | ⟨_,_,_,e⟩
 ·exact absurd e0 h1
 ·rw [e]
  simp only
  rw [if_neg h1]
  refine .inl ?_
  have:appE t (nameOf (stepW s).g) (scan.put (s.ws.take (room s)))=6:=by
   unfold appE at h1 ⊢
   split
   ·rfl
   ·rename_i hq;rw [if_neg hq] at h1;exact absurd rfl h1
  rw [this]
 ·rw [e] at hra ⊢
  simp only at hra ⊢
  rw [if_neg (show ¬ (9:Int)=0 by decide)]
  exact .inr (.inl ⟨rfl,rfl,rfl,hra,rfl,rfl⟩)
 ·rw [e] at hra ⊢
  simp only at hra ⊢
  rw [if_pos trivial]
  obtain ⟨y,hy⟩:∃ y:DiskD,(⟨appF t.files (nameOf (stepW s).g) (scan.put (s.ws.take (room s))),t.room,if 0 < t.fuse then t.fuse - 1 else t.fuse,t.down⟩:DiskD)=y:=⟨_,rfl⟩
  have hyf:y.files=appF t.files (nameOf (stepW s).g) (scan.put (s.ws.take (room s))):=by rw [← hy]
  have hym:y.room=t.room:=by rw [← hy]
  have hyd:y.down=false:=by rw [← hy];exact hd
  rw [hy] at hra ⊢
  have hrs:=right_sync (nm:=nameOf (stepW s).g) hra
  have e1:firstE y (nameOf (stepW s).g) (nameOf (stepW s).g)=0:=by rw [first_up hra hyd,hn];rfl
  have e2:noE y.files (nameOf (stepW s).g)=0:=by
   unfold noE
   rw [hyf,look_appF hrow,if_neg (by simp)]
  unfold syncD at hrs ⊢
  rcases op_cases y (nameOf (stepW s).g) (nameOf (stepW s).g) (noE y.files (nameOf (stepW s).g)) (syncF y.files (nameOf (stepW s).g)) false with ⟨h1,e⟩ | ⟨_,h1,e⟩ | ⟨_,_,_,e⟩ | ⟨_,_,_,e⟩
  ·exact absurd e1 h1
  ·exact absurd e2 h1
  ·rw [e] at hrs ⊢
   simp only at hrs ⊢
   rw [if_neg (show ¬ (9:Int)=0 by decide)]
   exact .inr (.inl ⟨rfl,rfl,rfl,hrs,hym,hyf⟩)
  ·rw [e] at hrs ⊢
   simp only at hrs ⊢
   rw [if_pos trivial]
   exact .inr (.inr ⟨rfl,rfl,hyd,hrs,hym,by rw [hyf];exact sync_app hrow _ _⟩)
structure Jn (F:List FrameD) (w:Wl) (E:Int):Prop where
 r:right w=true
 u:w.u=(F.length:Int)
 g:w.g=gS F.length
 c:w.c=cS F.length
 ok:Fok (F++w.ws)
 le:scan.last (F++w.ws) 1≤w.e
 we:w.e≤E
 fe:∀ f ∈ F++w.ws,f.e≤E
structure Live (F:List FrameD) (w:Wl) (E:Int) (x:DiskD):Prop where
 j:Jn F w E
 d:x.down=false
 s:Sures x.files
 c:Can 0 F x
structure Dead (F:List FrameD) (w:Wl) (E:Int) (x:DiskD):Prop where
 j:Jn F w E
 d:x.down=true
 r:rightB x=true
 t:∃ (t:DiskD) (B:List FrameD),Plain t∧Sures t.files∧Can 0 F t∧B≠[]∧B.length≤8 - F.length % 8∧B <+: w.ws∧x.files=appF t.files (nameOf (segN (F.length / 8))) (scan.put B)
section
variable {F:List FrameD} {w s:Wl} {E:Int} {d t:DiskD}
theorem fok_left {A B:List FrameD} (h:Fok (A++B)):Fok A:=by
 have h1:=h.row
 rw [scan.row_append,Bool.and_eq_true] at h1
 exact ⟨h1.1,fun f hf=>h.fine f (List.mem_append_left _ hf)⟩
theorem fok_take {A B C:List FrameD} (h:Fok (A++B)) (hc:C <+: B):Fok (A++C):=by
 obtain ⟨D,rfl⟩:=hc
 rw [← List.append_assoc] at h
 exact fok_left h
theorem jn_len (h:Jn F w E):w.n=((F++w.ws).length:Int)+1∧(F++w.ws).length≤1000000000:=by
 have h1:=right_facts h.r
 have h2:=h.u
 rw [List.length_append]
 omega
theorem jn_begun (h:Jn F w E):(begun w).g=segN (F.length / 8)∧(begun w).c=((F.length % 8:Nat):Int):=by
 have hu:=h.u;have hg:=h.g;have hc:=h.c
 unfold begun
 unfold gS at hg
 unfold cS at hc
 by_cases h0:F.length=0
 ·rw [if_pos h0] at hg hc
  rw [if_pos (.inl hg)]
  exact ⟨by show w.u+1=_;rw [hu];unfold segN;omega,by show (0:Int)=_;omega⟩
 ·rw [if_neg h0] at hg hc
  by_cases h8:F.length % 8=0
  ·rw [if_pos (.inr (by rw [hc];unfold many;omega))]
   exact ⟨by show w.u+1=_;rw [hu];unfold segN;omega,by show (0:Int)=_;omega⟩
  ·rw [if_neg (by rw [hg,hc];unfold segN many;omega)]
   exact ⟨by rw [hg];unfold segN many;omega,by rw [hc];unfold many;omega⟩
theorem jn_room (h:Jn F w E):room w=min w.ws.length (8 - F.length % 8):=by
 have:=(jn_begun h).2
 unfold room;rw [this];omega
theorem step_g (h:Jn F w E) (hne:w.ws≠[]):(stepW w).g=segN (F.length / 8):=by
 have:=(jn_begun h).1
 show (begun w).g=_
 exact this
theorem jn_step (h:Jn F w E) (hne:w.ws≠[]):Jn (F++w.ws.take (room w)) (stepW w) E:=by
 obtain ⟨b1,b2⟩:=jn_begun h
 have hrm:=jn_room h
 have hst:=step_right h.r hne
 have hle:=room_le w
 have hpos:=room_pos h.r hne
 have hlen:(F++w.ws.take (room w)).length=F.length+room w:=by rw [List.length_append,List.length_take];omega
 have happ:(F++w.ws.take (room w))++(stepW w).ws=F++w.ws:=by
  show (F++w.ws.take (room w))++w.ws.drop (room w)=_
  rw [List.append_assoc,List.take_append_drop]
 have he:(stepW w).e=w.e:=(step_ne w).2
 refine ⟨hst.1,?_,?_,?_,by rw [happ];exact h.ok,by rw [happ,he];exact h.le,by rw [he];exact h.we,by rw [happ];exact h.fe⟩
 ·show w.u+(room w:Int)=_
  rw [h.u,hlen];push_cast;rfl
 ·rw [step_g h hne,hlen]
  unfold gS
  rw [if_neg (by omega)]
  unfold segN many
  omega
 ·show (begun w).c+(room w:Int)=_
  rw [b2,hlen]
  unfold cS
  rw [if_neg (by omega)]
  unfold many
  omega
theorem live_fits (h:Live F w E d):fitsL w d=true:=by
 refine fits_iff.2 ⟨h.j.r,h.c.r,fun x hx=>?_,?_⟩
 ·rw [h.c.sg,sgL_mem] at hx
  obtain ⟨j,_,h2,rfl⟩:=hx
  have:=many_lt h2
  rw [h.j.u];unfold segN;omega
 ·have hg:=h.j.g;have hc:=h.j.c
  unfold gS at hg;unfold cS at hc
  by_cases h0:F.length=0
  ·rw [if_pos h0] at hg;exact .inl hg
  ·rw [if_neg h0] at hg hc
   refine .inr ?_
   rw [hg,hc,h.c.h _ (Nat.zero_le _) (by unfold many;omega),scan.put_len,chunk_len]
   have:8 * (many F.length - 1) < F.length:=by unfold many;omega
   have:F.length - 8 * (many F.length - 1)≤8:=by unfold many;omega
   omega
structure Comm (F:List FrameD) (w:Wl) (E:Int) (r:Wl × DiskD × Int):Prop where
 c:∃ F',F'++r.1.ws=F++w.ws∧F.length≤F'.length∧r.1.n=w.n∧((r.2.2=0∧r.1.ws=[]∧Live F' r.1 E r.2.1)∨(r.2.2=6∧Live F' r.1 E r.2.1)∨(r.2.2=9∧Dead F' r.1 E r.2.1))
theorem commA:∀ (k:Nat) (F:List FrameD) (w:Wl) (d:DiskD),Live F w E d→w.ws.length≤k→Comm F w E (commitA k w d)
 | 0,F,w,d,h,hk=>⟨F,rfl,Nat.le_refl _,rfl,.inl ⟨rfl,List.eq_nil_of_length_eq_zero (by show w.ws.length=0;omega),h⟩⟩
 |k + 1,F,w,d,h,hk=>by
  unfold commitA
  by_cases hne:w.ws=[]
  ·rw [if_pos hne];exact ⟨F,rfl,Nat.le_refl _,rfl,.inl ⟨rfl,hne,h⟩⟩
  ·rw [if_neg hne]
   have hsg:=step_g h.j hne
   have hrm:=jn_room h.j
   have hwp:=ws_pos hne
   have hpos:=room_pos h.j.r hne
   have hP:Plain ⟨d.files,d.room, -1,false⟩:=plain_of h.c.r
   have hCP:Can 0 F ⟨d.files,d.room, -1,false⟩:=can_files h.c hP.1 rfl
   have hB:w.ws.take (room w)≠[]:=fun e=>by have:=congrArg List.length e;rw [List.length_take] at this;simp only [List.length_nil] at this;omega
   have hBl:(w.ws.take (room w)).length=room w:=by rw [List.length_take];have:=room_le w;omega
   rcases (wrote (s:=w) h.c.r h.d).c with e | ⟨e1,e2,e3,e4,e5,e6⟩ | ⟨e1,e2,e3,e4,e5,e6⟩
   ·rw [e]
    simp only
    rw [if_neg (show ¬ (6:Int)=0 by decide)]
    exact ⟨F,rfl,Nat.le_refl _,rfl,.inr (.inl ⟨rfl,h⟩)⟩
   ·rw [if_neg (by rw [e2];decide)]
    refine ⟨F,by rw [e1],Nat.le_refl _,by rw [e1],.inr (.inr ⟨e2,?_⟩)⟩
    rw [e1]
    refine ⟨h.j,e3,e4,_,w.ws.take (room w),hP,h.s,hCP,hB,by rw [hBl];omega,List.take_prefix _ _,?_⟩
    rw [e6,hsg]
   ·rw [if_pos e2]
    have hj:=jn_step h.j hne
    have hPy:Plain (addD ⟨d.files,d.room, -1,false⟩ (nameOf (segN (F.length / 8))) (scan.put (w.ws.take (room w)))):=by
     have:=plain_of e4
     rw [e5,e6,hsg] at this
     exact this
    have hlen:=jn_len h.j
    rw [List.length_append] at hlen
    have hC2:=can_add hP hCP hB (by rw [hBl];omega) (by rw [hBl];omega) hPy
    have hL:Live (F++w.ws.take (room w)) (stepW w) E (writeW w d).2.1:=by
     refine ⟨hj,e3,?_,can_files hC2 e4 (by rw [e6,hsg];rfl)⟩
     rw [e6]
     intro f hf
     rcases (mem_with (plain_row hP)).1 hf with rfl | ⟨hf,_⟩
     ·rfl
     ·exact h.s f hf
    have hws:(stepW w).ws.length < w.ws.length:=(step_right h.j.r hne).2
    obtain ⟨F',c1,c2,c3,c4⟩:=(commA k _ (stepW w) _ hL (by omega)).c
    rw [e1]
    refine ⟨F',?_,?_,c3.trans (step_ne w).1,c4⟩
    ·rw [c1]
     show (F++w.ws.take (room w))++w.ws.drop (room w)=_
     rw [List.append_assoc,List.take_append_drop]
    ·rw [List.length_append] at c2;omega
theorem commL (h:Live F w E d):Comm F w E (commitL w d):=by
 unfold commitL
 rw [if_pos (live_fits h)]
 exact commA 33 F w d h (by have:=right_facts h.j.r;omega)
theorem put_last (l:List FrameD) (f:FrameD):(l++[f]).getD ((l++[f]).length - 1) frz=f:=by
 rw [List.getD_eq_getElem?_getD,List.length_append,List.length_singleton,Nat.add_sub_cancel,List.getElem?_append_right (Nat.le_refl _),Nat.sub_self];rfl
theorem jn_put (h:Jn F w E) {k b0 b1 b2 b3 b4 b5:Int} (hq:¬ (k < 1∨6 < k)∧¬ 1000000000 < w.n∧¬ 32≤w.ws.length) (hi:inI k∧inI b0∧inI b1∧inI b2∧inI b3∧inI b4∧inI b5):Jn F (wit w (w.n+1) (w.ws++[newF w k b0 b1 b2 b3 b4 b5])) E:=by
 have hrf:=right_facts h.r
 have hlen:=jn_len h
 refine ⟨put_right h.r hq,h.u,h.g,h.c,?_,?_,h.we,?_⟩
 ·show Fok (F++(w.ws++[newF w k b0 b1 b2 b3 b4 b5]))
  rw [← List.append_assoc]
  refine ⟨?_,fun f hf=>?_⟩
  ·rw [scan.row_append,h.ok.row,Bool.true_and]
   refine (scan.row_cons _ _ _ _).2 ⟨?_,?_,h.le,rfl⟩
   ·unfold frame.right newF
    exact decide_eq_true (by simp only;omega)
   ·show w.n=_;omega
  ·rcases List.mem_append.1 hf with hf | hf
   ·exact h.ok.fine f hf
   ·rw [List.mem_singleton.1 hf]
    exact ⟨by show inI w.e;unfold inI;omega,by show inI w.n;unfold inI;omega,hi⟩
 ·show scan.last (F++(w.ws++[newF w k b0 b1 b2 b3 b4 b5])) 1≤w.e
  rw [← List.append_assoc,scan.last_get _ (newF w k b0 b1 b2 b3 b4 b5) 1 (by simp)]
  exact Int.le_refl _
 ·intro f hf
  have hf2:f ∈ F++(w.ws++[newF w k b0 b1 b2 b3 b4 b5]):=hf
  rw [← List.append_assoc] at hf2
  rcases List.mem_append.1 hf2 with hf | hf
  ·exact h.fe f hf
  ·rw [List.mem_singleton.1 hf];exact h.we
theorem lput_jn:∀ (m:Nat) (w:Wl) (f:Int),Jn F w E→(∀ i:Nat,i < m→inI (f+(i:Int)))→∃ out,(lput m w f).2=out∧(lput m w f).1.ws=w.ws++out∧out.length≤m∧Jn F (lput m w f).1 E
 | 0,w,f,h,_=>⟨[],rfl,by simp [lput],Nat.le_refl _,h⟩
 |m + 1,w,f,h,hf=>by
  unfold lput
  by_cases hq:1000000000 < w.n∨32≤w.ws.length
  ·have hp:(putW w 3 f 0 0 0 0 0).2≠0:=by
    unfold putW
    rw [if_neg (by rw [h.r];simp)]
    split
    ·show ¬ (3:Int)=0;decide
    ·rename_i h1
     rw [if_pos (hq.resolve_left h1)]
     show ¬ (6:Int)=0;decide
   rw [if_neg (fun hx=>hp hx.1)]
   exact ⟨[],rfl,by simp,Nat.zero_le _,h⟩
  ·have hq2:¬ ((3:Int) < 1∨(6:Int) < 3)∧¬ 1000000000 < w.n∧¬ 32≤w.ws.length:=⟨by omega,fun h1=>hq (.inl h1),fun h1=>hq (.inr h1)⟩
   have hp:=put_yes (k:=3) (b0:=f) (b1:=0) (b2:=0) (b3:=0) (b4:=0) (b5:=0) h.r hq2
   have hf0:inI f:=by have:=hf 0 (Nat.succ_pos _);simpa using this
   have hj:=jn_put (b0:=f) (b1:=0) (b2:=0) (b3:=0) (b4:=0) (b5:=0) h hq2 ⟨by unfold inI;omega,hf0,by unfold inI;omega,by unfold inI;omega,by unfold inI;omega,by unfold inI;omega,by unfold inI;omega⟩
   obtain ⟨out,o1,o2,o3,o4⟩:=lput_jn m _ (f+1) hj (fun i hi=>by have:=hf (i+1) (by omega);push_cast at this;rw [show f+1+(i:Int)=f+((i:Int)+1) by omega];exact this)
   rw [hp,if_pos ⟨rfl,by simp⟩]
   refine ⟨newF w 3 f 0 0 0 0 0 :: out,?_,?_,by simp only [List.length_cons];omega,o4⟩
   ·show _ :: (lput m (wit w (w.n+1) (w.ws++[newF w 3 f 0 0 0 0 0])) (f+1)).2=_
    rw [o1,put_last]
   ·show (lput m (wit w (w.n+1) (w.ws++[newF w 3 f 0 0 0 0 0])) (f+1)).1.ws=_
    rw [o2];simp
end
end Go.Proofs.YtalhdalinpdanaaGreatDoor.wal
end
