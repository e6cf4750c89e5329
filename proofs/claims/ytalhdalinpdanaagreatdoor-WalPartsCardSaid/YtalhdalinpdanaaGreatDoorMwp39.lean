/-
  WalI7, WalG, WalR1, WalK2
-/
import Derived.Test.YtalhdalinpdanaaGreatDoorMwp37
import Derived.Test.YtalhdalinpdanaaGreatDoorMwp38
import Derived.Test.YtalhdalinpdanaaGreatDoorMwp36
import Derived.Test.YtalhdalinpdanaaGreatDoorMwp11
set_option linter.unusedVariables false
set_option linter.unusedSimpArgs false
section
namespace Go.Proofs.YtalhdalinpdanaaGreatDoor.wal
open Go.RowKit Go.Proofs.YtalhdalinpdanaaGreatDoor Go.Proofs.YtalhdalinpdanaaGreatDoor.frame Go.Proofs.YtalhdalinpdanaaGreatDoor.disk
set_option maxRecDepth 20000
def newF (s:Wl) (k b0 b1 b2 b3 b4 b5:Int):FrameD:=⟨s.e,s.n,k,b0,b1,b2,b3,b4,b5⟩
section
variable {w0:World} {D:List Fact} {S:Nat→Prop} {v:Jv} {s:Wl} {k b0 b1 b2 b3 b4 b5:Int}
theorem newF_fine {w:World} (h:InJ w S v s) (hk:inI k) (hb:inI b0∧inI b1∧inI b2∧inI b3∧inI b4∧inI b5):(newF s k b0 b1 b2 b3 b4 b5).fine:=⟨h.e,h.n,hk,hb⟩
theorem put_arg (h:right s=false∨(k < 1∨6 < k)):putW s k b0 b1 b2 b3 b4 b5=(s,1):=by unfold putW;rw [if_pos h]
theorem put_over (hr:right s=true) (h:¬ (k < 1∨6 < k)∧1000000000 < s.n):putW s k b0 b1 b2 b3 b4 b5=(s,3):=by
 unfold putW;rw [if_neg (by rw [hr];simp;omega),if_pos h.2]
theorem put_full (hr:right s=true) (h:¬ (k < 1∨6 < k)∧¬ 1000000000 < s.n∧32≤s.ws.length):putW s k b0 b1 b2 b3 b4 b5=(s,6):=by
 unfold putW;rw [if_neg (by rw [hr];simp;omega),if_neg h.2.1,if_pos h.2.2]
theorem put_yes (hr:right s=true) (h:¬ (k < 1∨6 < k)∧¬ 1000000000 < s.n∧¬ 32≤s.ws.length):putW s k b0 b1 b2 b3 b4 b5=({ s with ws:=s.ws++[newF s k b0 b1 b2 b3 b4 b5],n:=s.n+1 },0):=by
 unfold putW;rw [if_neg (by rw [hr];simp;omega),if_neg h.2.1,if_neg h.2.2];rfl
theorem put_in {w' : World} {A:Option Addr} {c:Nat} {l:List FrameD} (h:InJ w0 S v s) (hf:1≤s.e∧s.e≤1000000∧1≤s.n∧s.n≤1000000001∧0≤s.u∧s.u < s.n∧s.ws.length≤32∧(s.ws.length:Int)=s.n - 1 - s.u∧((s.g=0∧s.c=0)∨(1≤s.g∧1≤s.c∧s.c≤8∧s.g=s.u+1 - s.c))) (ho:OwnElems rdFrame 9 w' 0 72 (fun _=>False) A l.length c l) (hy:∀ q,(ownF rdFrame 9 72 A l.length c l).S q→w0.heap.size≤q∧q < w'.heap.size) :
  InJ w' (Nw S w0 w') ⟨A,c⟩ { s with ws:=l,n:=s.n+1 } :=
 ⟨own_new keeps_frame (by decide) ho (fun q hq=>.inr (hy q hq)) (fun h=>frame_any h),ho.cap.1,ho.cap.2,h.e,by unfold inI;simp only;omega,h.u,h.g,h.k⟩
theorem q_j {v' : Jv} {s' : Wl} {e:Int} {r:Wl × Int} (hr:r=(s',e)) (hd:∀ w',Below w0.heap.size w0 w'→All D w'→(∀ f ∈ D,∀ k,f.S k→w0.heap.size≤k∧k < w'.heap.size)→InJ w' (Nw S w0 w') v' s') :
  ∃ x:Jv,(.tuple #[.agg (jc v' s'),.int .i64 e]:Value) = .tuple #[.agg (jc x r.1),.int .i64 r.2]∧Concl w0 D (fun w'=>InJ w' (Nw S w0 w') x r.1):=by
 subst hr
 exact ⟨v',rfl,fun w' hb ha hy=>hd w' hb ha hy⟩
end
theorem v_put (v:Jv) (s:Wl) (k b0 b1 b2 b3 b4 b5:Int) (S:Nat→Prop)  (w:World) (h0:InJ w S v s) (hS:∀ k,S k→k < w.heap.size) (hk:inI k) (hb:inI b0∧inI b1∧inI b2∧inI b3∧inI b4∧inI b5):Calls Tryz.prog 11 #[.agg (jc v s),.int .i64 k,.agg #[.int .i64 b0,.int .i64 b1,.int .i64 b2,.int .i64 b3,.int .i64 b4,.int .i64 b5]] w fun e w' => ∃ x:Jv,e = .returned (.tuple #[.agg (jc x (putW s k b0 b1 b2 b3 b4 b5).1),.int .i64 (putW s k b0 b1 b2 b3 b4 b5).2])∧Below w.heap.size w w'∧(fun w'=>InJ w' (Nw S w w') x (putW s k b0 b1 b2 b3 b4 b5).1) w' :=
 have h:=h0.all hS
 calls_q (fn:=Tryz.f11) (r:=fun (x:Jv)=>.tuple #[.agg (jc x (putW s k b0 b1 b2 b3 b4 b5).1),.int .i64 (putW s k b0 b1 b2 b3 b4 b5).2]) (Q:=fun (x:Jv)=>fun w'=>InJ w' (Nw S w w') x (putW s k b0 b1 b2 b3 b4 b5).1) (t:=let k0:=s.ws++[newF s k b0 b1 b2 b3 b4 b5];let k1:(Nat)→List Fact:=fun x=>[cellsF x (fc (newF s k b0 b1 b2 b3 b4 b5)) 72];let k2:=Option Addr × Nat;let k3:(Nat)→Value:=fun x=>.slice (some ⟨x,0,none⟩) 1 1;let k4:Value:=.int .i64 (s.n+1); .cs (right s) (.k (.s (.k .z) (.k (.s .z (.s .z (.s .z (.o [0] (.two (.two (.cm k2 (fun x=>.slice x.1 s.ws.length x.2) (fun x=>[ownF rdFrame 9 72 x.1 s.ws.length x.2 s.ws]) (fun x6=>.w (Nat) none k3 k1 (fun x7=>.w k2 (some 1) (fun x=>.slice x.1 (k0.length) x.2) (fun x=>[ownF rdFrame 9 72 x.1 (k0.length) x.2 k0]) (fun x8=>.e k4 .z)))) (.w (Nat) none k3 k1 (fun x9=>.cm k2 (fun x=>.slice x.1 s.ws.length x.2) (fun x=>[ownF rdFrame 9 72 x.1 s.ws.length x.2 s.ws]) (fun x10=>.w k2 (some 0) (fun x=>.slice x.1 (k0.length) x.2) (fun x=>[ownF rdFrame 9 72 x.1 (k0.length) x.2 k0]) (fun x11=>.e k4 .z))))) (.w (Nat) none k3 k1 (fun x12=>.cm k2 (fun x=>.slice x.1 s.ws.length x.2) (fun x=>[ownF rdFrame 9 72 x.1 s.ws.length x.2 s.ws]) (fun x13=>.w k2 (some 0) (fun x=>.slice x.1 (k0.length) x.2) (fun x=>[ownF rdFrame 9 72 x.1 (k0.length) x.2 k0]) (fun x14=>.e k4 .z)))))))))))) (.k (.k .z))) (X :=
 let k0:=s.ws++[newF s k b0 b1 b2 b3 b4 b5];let k1:=putW s k b0 b1 b2 b3 b4 b5;let k2:=fc (newF s k b0 b1 b2 b3 b4 b5);let k3:=(.int .i64 (IntKind.i64.wrap (s.n+1)):Value);let k4:=Option Addr × Nat;let k5:=(.tuple #[.agg (jc v s),.int .i64 1]:Value);let k6:=Instr.buildSlice 22 1 #[(0,.agg k2)];let k7:(Nat)→Value:=fun x=>.slice (some ⟨x,0,none⟩) 1 1;let k8:Array Value:=#[.slice v.A s.ws.length v.c];let k9:=decide ((s.ws.length:Int) ≥ 32);let k10:=decide (s.n > 1000000000); ∀ g0:Nat,∀ g1:Nat,∀ g2:Nat,Gives Tryz.prog w [] 13 #[.agg (jc v s)] (.bool (right s))∧((right s)=true→((decide (k < 1))=true→∃ x:Jv,k5 = .tuple #[.agg (jc x k1.1),.int .i64 k1.2]∧Concl w [] (fun w'=>InJ w' (Nw S w w') x k1.1))∧((decide (k < 1))=false→((decide (k > 6))=true→∃ x:Jv,k5 = .tuple #[.agg (jc x k1.1),.int .i64 k1.2]∧Concl w [] (fun w'=>InJ w' (Nw S w w') x k1.1))∧((decide (k > 6))=false→(k10=true→∃ x:Jv,(.tuple #[.agg (jc v s),.int .i64 3]:Value) = .tuple #[.agg (jc x k1.1),.int .i64 k1.2]∧Concl w [] (fun w'=>InJ w' (Nw S w w') x k1.1))∧(k10=false→(k9=true→∃ x:Jv,(.tuple #[.agg (jc v s),.int .i64 6]:Value) = .tuple #[.agg (jc x k1.1),.int .i64 k1.2]∧Concl w [] (fun w'=>InJ w' (Nw S w w') x k1.1))∧(k9=false→∀ g3:Nat,((GivesM Tryz.prog w [] 32 k8 k4 (fun x=>.slice x.1 s.ws.length x.2) (fun x=>[ownF rdFrame 9 72 x.1 s.ws.length x.2 s.ws])∧∀ x6:Option Addr × Nat,StepM Tryz.prog w [ownF rdFrame 9 72 x6.1 s.ws.length x6.2 s.ws] k6 (fun _=>False) (Nat) k7 (fun x=>[cellsF x k2 72])∧∀ x7:Nat,(∀ x:Option Addr × Nat,Imp w [ownF rdFrame 9 72 x.1 (k0.length) x.2 k0,cellsF x7 k2 72] [])∧StepM Tryz.prog w [cellsF x7 k2 72,ownF rdFrame 9 72 x6.1 s.ws.length x6.2 s.ws] (Builtin.append_ #[22,22] 22 #[.slice x6.1 s.ws.length x6.2,.slice (some ⟨x7,0,none⟩) 1 1]) ((ownF rdFrame 9 72 x6.1 s.ws.length x6.2 s.ws).S) k4 (fun x=>.slice x.1 (k0.length) x.2) (fun x=>[ownF rdFrame 9 72 x.1 (k0.length) x.2 k0])∧∀ x8:Option Addr × Nat,k3 = .int .i64 (s.n+1)∧∃ x:Jv,(.tuple #[.agg #[.int .i64 s.e,.int .i64 (s.n+1),.int .i64 s.u,.int .i64 s.g,.int .i64 s.c,.slice x8.1 (k0.length) x8.2],.int .i64 0]:Value) = .tuple #[.agg (jc x k1.1),.int .i64 k1.2]∧Concl w [ownF rdFrame 9 72 x8.1 (k0.length) x8.2 k0,cellsF x7 k2 72] (fun w'=>InJ w' (Nw S w w') x k1.1))∧(StepM Tryz.prog w [] k6 (fun _=>False) (Nat) k7 (fun x=>[cellsF x k2 72])∧∀ x9:Nat,GivesM Tryz.prog w [cellsF x9 k2 72] 32 k8 k4 (fun x=>.slice x.1 s.ws.length x.2) (fun x=>[ownF rdFrame 9 72 x.1 s.ws.length x.2 s.ws])∧∀ x10:Option Addr × Nat,(∀ x:Option Addr × Nat,Imp w [ownF rdFrame 9 72 x.1 (k0.length) x.2 k0,cellsF x9 k2 72] [])∧StepM Tryz.prog w [ownF rdFrame 9 72 x10.1 s.ws.length x10.2 s.ws,cellsF x9 k2 72] (Builtin.append_ #[22,22] 22 #[.slice x10.1 s.ws.length x10.2,.slice (some ⟨x9,0,none⟩) 1 1]) ((ownF rdFrame 9 72 x10.1 s.ws.length x10.2 s.ws).S) k4 (fun x=>.slice x.1 (k0.length) x.2) (fun x=>[ownF rdFrame 9 72 x.1 (k0.length) x.2 k0])∧∀ x11:Option Addr × Nat,k3 = .int .i64 (s.n+1)∧∃ x:Jv,(.tuple #[.agg #[.int .i64 s.e,.int .i64 (s.n+1),.int .i64 s.u,.int .i64 s.g,.int .i64 s.c,.slice x11.1 (k0.length) x11.2],.int .i64 0]:Value) = .tuple #[.agg (jc x k1.1),.int .i64 k1.2]∧Concl w [ownF rdFrame 9 72 x11.1 (k0.length) x11.2 k0,cellsF x9 k2 72] (fun w'=>InJ w' (Nw S w w') x k1.1)))∧(StepM Tryz.prog w [] k6 (fun _=>False) (Nat) k7 (fun x=>[cellsF x k2 72])∧∀ x12:Nat,GivesM Tryz.prog w [cellsF x12 k2 72] 32 k8 k4 (fun x=>.slice x.1 s.ws.length x.2) (fun x=>[ownF rdFrame 9 72 x.1 s.ws.length x.2 s.ws])∧∀ x13:Option Addr × Nat,(∀ x:Option Addr × Nat,Imp w [ownF rdFrame 9 72 x.1 (k0.length) x.2 k0,cellsF x12 k2 72] [])∧StepM Tryz.prog w [ownF rdFrame 9 72 x13.1 s.ws.length x13.2 s.ws,cellsF x12 k2 72] (Builtin.append_ #[22,22] 22 #[.slice x13.1 s.ws.length x13.2,.slice (some ⟨x12,0,none⟩) 1 1]) ((ownF rdFrame 9 72 x13.1 s.ws.length x13.2 s.ws).S) k4 (fun x=>.slice x.1 (k0.length) x.2) (fun x=>[ownF rdFrame 9 72 x.1 (k0.length) x.2 k0])∧∀ x14:Option Addr × Nat,k3 = .int .i64 (s.n+1)∧∃ x:Jv,(.tuple #[.agg #[.int .i64 s.e,.int .i64 (s.n+1),.int .i64 s.u,.int .i64 s.g,.int .i64 s.c,.slice x14.1 (k0.length) x14.2],.int .i64 0]:Value) = .tuple #[.agg (jc x k1.1),.int .i64 k1.2]∧Concl w [ownF rdFrame 9 72 x14.1 (k0.length) x14.2 k0,cellsF x12 k2 72] (fun w'=>InJ w' (Nw S w w') x k1.1)))))))∧((right s)=false→∃ x:Jv,k5 = .tuple #[.agg (jc x k1.1),.int .i64 k1.2]∧Concl w [] (fun w'=>InJ w' (Nw S w w') x k1.1))) Tryz.func11 (by kernel_rfl)
 (fun g0=>fun g1=>fun g2=>⟨(fun w1 hw _=>v_right v s w1 (h.later hw)),fun h1=>⟨fun h2=>have h2:k < 1:=(by simpa using h2)
(q_j (put_arg (.inr (by omega))) (fun w1 hb ha hy=>(h0.keep (low_alike hS hb) (fun _ h=>.inl h)))),
 fun h2=>have h2:¬ k < 1:=(by simpa using h2)
⟨fun h3=>have h3:6 < k:=(by simpa using h3)
(q_j (put_arg (.inr (by omega))) (fun w1 hb ha hy=>(h0.keep (low_alike hS hb) (fun _ h=>.inl h)))),
 fun h3=>have h3:¬ 6 < k:=(by simpa using h3)
⟨fun h4=>have h4:1000000000 < s.n:=(by simpa using h4)
(q_j (put_over h1 (by omega)) (fun w1 hb ha hy=>(h0.keep (low_alike hS hb) (fun _ h=>.inl h)))),
 fun h4=>have h4:¬ 1000000000 < s.n:=(by simpa using h4)
⟨fun h5=>have h5:¬ (s.ws.length:Int) < 32:=(by simpa using h5)
(q_j (put_full h1 (by omega)) (fun w1 hb ha hy=>(h0.keep (low_alike hS hb) (fun _ h=>.inl h)))),
 fun h5=>have h5:(s.ws.length:Int) < 32:=(by simpa using h5)
 fun g3=>⟨⟨⟨(fun w1 hw _=>v_clone v.A v.c s.ws w1 (h.later hw).f (by omega)),fun x6=>⟨(build_step2 (by kernel_rfl) (fun g=>by kernel_rfl)),fun x7=>⟨fun x w _ ha=>trivial,(step_to2 (by simp) rfl (append_core keeps_frame leaf_frame (by decide) Tryz.underlying22 info_frame rfl (fun _ h=>h) (row_at (j:=1) rfl) (fun w _ ha=>one_elem (block_at (j:=0) rfl w ha) rfl ⟨rfl,newF_fine h0 hk hb⟩) rfl (by unfold maxLen;omega) (by omega) (fun h=>h))),fun x8=>⟨wrap_is rfl (by have:=right_facts h1;omega) (by have:=right_facts h1;omega),(q_j (v':=⟨x8.1,x8.2⟩) (s':={ s with ws:=s.ws++[newF s k b0 b1 b2 b3 b4 b5],n:=s.n+1 }) (put_yes h1 (by omega)) (fun w1 hb1 ha hy=>put_in h0 (right_facts h1) (row_at (j:=0) rfl w1 ha) (fun q hq=>hy _ (List.mem_of_getElem? (i:=0) rfl) q hq)))⟩⟩⟩⟩,
⟨(build_step2 (by kernel_rfl) (fun g=>by kernel_rfl)),fun x9=>⟨(fun w1 hw _=>v_clone v.A v.c s.ws w1 (h.later hw).f (by omega)),fun x10=>⟨fun x w _ ha=>trivial,(step_to2 (by simp) rfl (append_core keeps_frame leaf_frame (by decide) Tryz.underlying22 info_frame rfl (fun _ h=>h) (row_at (j:=0) rfl) (fun w _ ha=>one_elem (block_at (j:=1) rfl w ha) rfl ⟨rfl,newF_fine h0 hk hb⟩) rfl (by unfold maxLen;omega) (by omega) (fun h=>h))),fun x11=>⟨wrap_is rfl (by have:=right_facts h1;omega) (by have:=right_facts h1;omega),(q_j (v':=⟨x11.1,x11.2⟩) (s':={ s with ws:=s.ws++[newF s k b0 b1 b2 b3 b4 b5],n:=s.n+1 }) (put_yes h1 (by omega)) (fun w1 hb1 ha hy=>put_in h0 (right_facts h1) (row_at (j:=0) rfl w1 ha) (fun q hq=>hy _ (List.mem_of_getElem? (i:=0) rfl) q hq)))⟩⟩⟩⟩⟩,
⟨(build_step2 (by kernel_rfl) (fun g=>by kernel_rfl)),fun x12=>⟨(fun w1 hw _=>v_clone v.A v.c s.ws w1 (h.later hw).f (by omega)),fun x13=>⟨fun x w _ ha=>trivial,(step_to2 (by simp) rfl (append_core keeps_frame leaf_frame (by decide) Tryz.underlying22 info_frame rfl (fun _ h=>h) (row_at (j:=0) rfl) (fun w _ ha=>one_elem (block_at (j:=1) rfl w ha) rfl ⟨rfl,newF_fine h0 hk hb⟩) rfl (by unfold maxLen;omega) (by omega) (fun h=>h))),fun x14=>⟨wrap_is rfl (by have:=right_facts h1;omega) (by have:=right_facts h1;omega),(q_j (v':=⟨x14.1,x14.2⟩) (s':={ s with ws:=s.ws++[newF s k b0 b1 b2 b3 b4 b5],n:=s.n+1 }) (put_yes h1 (by omega)) (fun w1 hb1 ha hy=>put_in h0 (right_facts h1) (row_at (j:=0) rfl w1 ha) (fun q hq=>hy _ (List.mem_of_getElem? (i:=0) rfl) q hq)))⟩⟩⟩⟩⟩⟩⟩⟩⟩,
 fun h1=>(q_j (put_arg (.inl h1)) (fun w1 hb ha hy=>(h0.keep (low_alike hS hb) (fun _ h=>.inl h))))⟩)
end Go.Proofs.YtalhdalinpdanaaGreatDoor.wal
end
section
namespace Go.Proofs.YtalhdalinpdanaaGreatDoor.wal
set_option maxRecDepth 20000
open Go.RowKit Go.Proofs.YtalhdalinpdanaaGreatDoor Go.Proofs.YtalhdalinpdanaaGreatDoor.frame Go.Proofs.YtalhdalinpdanaaGreatDoor.disk
theorem turns_trans {w0:World} {D fs gs:List Fact} (h:Turns w0 D fs) (h' : Turns w0 fs gs):Turns w0 D gs:=fun h1 h2=>by
 obtain ⟨a1,a2,a3,a4⟩:=h h1 h2
 obtain ⟨b1,b2,b3,b4⟩:=h' a1 a2
 refine ⟨b1,b2,fun f hf k hk=>?_,fun w hb ha=>b4 w hb (a4 w hb ha)⟩
 obtain ⟨g,hg,hk2⟩:=b3 f hf k hk
 exact a3 g hg k hk2
abbrev turnAt {β δ:Type} {S:Nat→Prop} {W:World} {R:World→(Nat→Prop)→β→Prop} {R2:World→(Nat→Prop)→δ→Prop} (x:Dat R S W) (d:δ) (h:R2 x.1.1 (fun k=>S k∨x.1.2.1 k) d):Dat R2 S W:=⟨(x.1.1,x.1.2.1,d),h,x.2.2⟩
section
variable {S:Nat→Prop} {W:World} {α β γ δ:Type} {RA:World→(Nat→Prop)→α→Prop} {RB' : World→(Nat→Prop)→β→Prop} {RC:World→(Nat→Prop)→γ→Prop} {RD' : World→(Nat→Prop)→δ→Prop}
abbrev glue4 (ka:Keeps3 RA) (y:Dat RA S W) (kb:Keeps3 RB') (x1:Dat RB' (Un S y.1.2.1) y.1.1) (kc:Keeps3 RC) (x2:Dat RC (Un (Un S y.1.2.1) x1.1.2.1) x1.1.1) (kd:Keeps3 RD') (x3:Dat RD' (Un (Un (Un S y.1.2.1) x1.1.2.1) x2.1.2.1) x2.1.1) :=
 glue ka y (keeps_and kb (keeps_and kc kd)) (glue kb x1 (keeps_and kc kd) (glue kc x2 kd x3))
theorem turns_four {w0:World} (ka:Keeps3 RA) (y:Dat RA S W) (kb:Keeps3 RB') (x1:Dat RB' (Un S y.1.2.1) y.1.1) (kc:Keeps3 RC) (x2:Dat RC (Un (Un S y.1.2.1) x1.1.2.1) x1.1.1) (kd:Keeps3 RD') (x3:Dat RD' (Un (Un (Un S y.1.2.1) x1.1.2.1) x2.1.2.1) x2.1.1) {E:List Fact} :
  Turns w0 (poolF x3.1.1 x3.1.2.1 :: poolF x2.1.1 x2.1.2.1 :: poolF x1.1.1 x1.1.2.1 :: poolF y.1.1 y.1.2.1 :: E) (poolF (glue4 ka y kb x1 kc x2 kd x3).1.1 (glue4 ka y kb x1 kc x2 kd x3).1.2.1 :: E) :=
 turns_trans (turns_glue2 kc x2 kd x3) (turns_trans (turns_glue2 kb x1 (keeps_and kc kd) (glue kc x2 kd x3)) (turns_glue2 ka y (keeps_and kb (keeps_and kc kd)) (glue kb x1 (keeps_and kc kd) (glue kc x2 kd x3))))
end
abbrev TabW (w : World) : Prop := Lib.TabIs Tryz.prog w "internal/strconv.uint64pow10" .u64 Lib.pow10Tab
section
variable {w0 W:World} {D:List Fact} {S:Nat→Prop} {v:Jv} {s:Wl} {u:Dv} {t:DiskD}
theorem g_wput {k b0 b1 b2 b3 b4 b5:Int} {r:Wl × Int} (e:putW s k b0 b1 b2 b3 b4 b5=r) (hF:Fixed w0 D S W) (hj:∀ w,Below w0.heap.size w0 w→All D w→InJ w S v s) (hk:inI k) (hb:inI b0∧inI b1∧inI b2∧inI b3∧inI b4∧inI b5) :
  GivesM Tryz.prog w0 D 11 #[.agg (jc v s),.int .i64 k,.agg #[.int .i64 b0,.int .i64 b1,.int .i64 b2,.int .i64 b3,.int .i64 b4,.int .i64 b5]] (Dat (fun w S v=>InJ w S v r.1) S W) (fun x=>.tuple #[.agg (jc x.1.2.2 r.1),.int .i64 r.2]) (fun x=>[poolF x.1.1 x.1.2.1]):=by
 subst e
 exact gives_dat (R:=fun w S v=>InJ w S v (putW s k b0 b1 b2 b3 b4 b5).1) (r:=fun b=>.tuple #[.agg (jc b (putW s k b0 b1 b2 b3 b4 b5).1),.int .i64 (putW s k b0 b1 b2 b3 b4 b5).2]) hF (fun w hw ha=>v_put v s k b0 b1 b2 b3 b4 b5 S w (hj w hw ha) (hF w hw ha).2 hk hb)
theorem g_wcommit {r:Wl × DiskD × Int} (e:commitL s t=r) (hF:Fixed w0 D S W) (hj:∀ w,Below w0.heap.size w0 w→All D w→InJ w S v s) (hd:∀ w,Below w0.heap.size w0 w→All D w→InD w S u t) (hs:shortB t.files=true) (ht:TabW w0) (he:ErrVar w0) :
  GivesM Tryz.prog w0 D 16 #[.agg (jc v s),.agg (dc u t)] (Dat (RW r) S W) (fun x=>.tuple #[.agg (jc x.1.2.2.1 r.1),.agg (dc x.1.2.2.2 r.2.1),.int .i64 r.2.2]) (fun x=>[poolF x.1.1 x.1.2.1]):=by
 subst e
 exact gives_dat (R:=RW (commitL s t)) (r:=fun b=>.tuple #[.agg (jc b.1 (commitL s t).1),.agg (dc b.2 (commitL s t).2.1),.int .i64 (commitL s t).2.2]) hF (fun w hw ha=>v_commit v s u t S w (hj w hw ha) (hd w hw ha) (hF w hw ha).2 hs (var_later ht hw) (ev_later he hw))
theorem g_wsegs {l:List Int} (e:segs t=l) (hd:∀ w,Below w0.heap.size w0 w→All D w→InD w (Lt w.heap.size) u t) (hs:shortB t.files=true) (ht:TabW w0) (he:ErrVar w0) :
  GivesM Tryz.prog w0 D 21 #[.agg (dc u t)] (Option Addr × Nat) (fun x=>.slice x.1 l.length x.2) (fun x=>[ownF (rdInt .i64) 1 2 x.1 l.length x.2 l]):=by
 subst e
 exact fun w hw ha=>v_segments u t w (hd w hw ha) hs (var_later ht hw) (ev_later he hw)
theorem g_wright {b:Bool} (e:right s=b) (hj:∀ w,Below w0.heap.size w0 w→All D w→InJ w (Lt w.heap.size) v s):Gives Tryz.prog w0 D 13 #[.agg (jc v s)] (.bool b):=fun w hw ha=>by
 subst e;exact v_right v s w (hj w hw ha)
end
end Go.Proofs.YtalhdalinpdanaaGreatDoor.wal
end
section
namespace Go.Proofs.YtalhdalinpdanaaGreatDoor.wal
open Go.RowKit Go.Proofs.YtalhdalinpdanaaGreatDoor Go.Proofs.YtalhdalinpdanaaGreatDoor.frame Go.Proofs.YtalhdalinpdanaaGreatDoor.disk
set_option maxRecDepth 20000
section
variable {w0:World} {D:List Fact}
theorem g_rsame {A A2:Option Addr} {c c2:Nat} {l l2:List FrameD} (h:Elems rdFrame 9 w0 (Lt w0.heap.size) A l) (h2:Elems rdFrame 9 w0 (Lt w0.heap.size) A2 l2) (hm:l.length≤100000) (hm2:l2.length≤100000):Gives Tryz.prog w0 D 28 #[.slice A l.length c,.slice A2 l2.length c2] (.bool (decide (l=l2))):=fun w hw _ =>
 scan.same_of w (h.keep keeps_frame (below_alike hw) (fun _ h=>Nat.lt_of_lt_of_le h hw.size)) (Nat.le_refl _) rfl hm (h2.keep keeps_frame (below_alike hw) (fun _ h=>Nat.lt_of_lt_of_le h hw.size)) (Nat.le_refl _) rfl hm2 rfl
end
theorem same_ws {s r:Wl} (h1:s.e=r.e) (h2:s.n=r.n) (h3:s.u=r.u) (h4:s.g=r.g) (h5:s.c=r.c):decide (s=r)=decide (s.ws=r.ws):=by
 obtain ⟨a,b,c,d,e,l⟩:=s
 obtain ⟨a',b',c',d',e',l'⟩:=r
 simp only at h1 h2 h3 h4 h5
 subst h1 h2 h3 h4 h5
 simp
theorem v_rsame (v:Jv) (s:Wl) (q:Jv) (r:Wl)  (w:World) (h:InJ w (Lt w.heap.size) v s) (hq:InJ w (Lt w.heap.size) q r) (hl:s.ws.length≤100000) (hl2:r.ws.length≤100000):Calls Tryz.prog 15 #[.agg (jc v s),.agg (jc q r)] w fun e w'=>e = .returned (.bool (decide (s=r)))∧Below w.heap.size w w' :=
 calls_by (fn:=Tryz.f15) (r:=.bool (decide (s=r))) (t:=.s (.k (.s (.k (.s (.k (.s (.k (.s (.k (.cs (decide (s.ws=r.ws)) .z .z)) (.k .z))) (.k (.k .z)))) (.k (.k (.k .z))))) (.k (.k (.k (.k .z)))))) (.k (.k (.k (.k (.k .z)))))) (X :=
 let k0:=(.bool false:Value) = .bool (decide (s=r));let k1:=decide (s.ws=r.ws); ∀ g0:Nat,∀ g1:Nat,((decide (s.e=r.e))=true→((decide (s.n=r.n))=true→((decide (s.u=r.u))=true→((decide (s.g=r.g))=true→((decide (s.c=r.c))=true→Gives Tryz.prog w [] 28 #[.slice v.A s.ws.length v.c,.slice q.A r.ws.length q.c] (.bool k1)∧(k1=true→((.bool true:Value) = .bool (decide (s=r))))∧(k1=false→k0))∧((decide (s.c=r.c))=false→k0))∧((decide (s.g=r.g))=false→k0))∧((decide (s.u=r.u))=false→k0))∧((decide (s.n=r.n))=false→k0))∧((decide (s.e=r.e))=false→k0)) Tryz.func15 (by kernel_rfl)
 (fun g0=>fun g1=>⟨fun h1=>have h1:s.e=r.e:=(by simpa using h1)
⟨fun h2=>have h2:s.n=r.n:=(by simpa using h2)
⟨fun h3=>have h3:s.u=r.u:=(by simpa using h3)
⟨fun h4=>have h4:s.g=r.g:=(by simpa using h4)
⟨fun h5=>have h5:s.c=r.c:=(by simpa using h5)
⟨(g_rsame h.f hq.f hl hl2),fun h6=>(by rw [same_ws h1 h2 h3 h4 h5,h6]),
 fun h6=>(by rw [same_ws h1 h2 h3 h4 h5,h6])⟩,
 fun h5=>have h5:¬ s.c=r.c:=(by simpa using h5)
(by rw [decide_eq_false (fun e9=>h5 (by rw [e9]))])⟩,
 fun h4=>have h4:¬ s.g=r.g:=(by simpa using h4)
(by rw [decide_eq_false (fun e9=>h4 (by rw [e9]))])⟩,
 fun h3=>have h3:¬ s.u=r.u:=(by simpa using h3)
(by rw [decide_eq_false (fun e9=>h3 (by rw [e9]))])⟩,
 fun h2=>have h2:¬ s.n=r.n:=(by simpa using h2)
(by rw [decide_eq_false (fun e9=>h2 (by rw [e9]))])⟩,
 fun h1=>have h1:¬ s.e=r.e:=(by simpa using h1)
(by rw [decide_eq_false (fun e9=>h1 (by rw [e9]))])⟩)
end Go.Proofs.YtalhdalinpdanaaGreatDoor.wal
end
section
namespace Go.Proofs.YtalhdalinpdanaaGreatDoor.wal
open Go.RowKit Go.Proofs.YtalhdalinpdanaaGreatDoor Go.Proofs.YtalhdalinpdanaaGreatDoor.frame Go.Proofs.YtalhdalinpdanaaGreatDoor.disk
set_option maxRecDepth 20000
theorem len_write (s:Wl) (t:DiskD):(writeW s t).1.ws.length≤s.ws.length:=by
 unfold writeW
 simp only
 split
 ·split
  ·show (s.ws.drop (room s)).length≤s.ws.length
   simp
  ·exact Nat.le_refl _
 ·exact Nat.le_refl _
theorem len_commitA:∀ (k:Nat) (s:Wl) (t:DiskD),(commitA k s t).1.ws.length≤s.ws.length
 | 0,s,t=>Nat.le_refl _
 |k+1,s,t=>by
  unfold commitA
  split
  ·exact Nat.le_refl _
  ·split
   ·exact Nat.le_trans (len_commitA k _ _) (len_write s t)
   ·exact len_write s t
theorem len_commit (s:Wl) (t:DiskD):(commitL s t).1.ws.length≤s.ws.length:=by
 unfold commitL
 split
 ·exact len_commitA _ _ _
 ·exact Nat.le_refl _
section
variable {w0 W:World} {D:List Fact} {S:Nat→Prop} {v q:Jv} {s:Wl} {u u2:Dv} {t:DiskD}
theorem g_rsame_j (hj:∀ w,Below w0.heap.size w0 w→All D w→InJ w (Lt w.heap.size) v s) (hq:∀ w,Below w0.heap.size w0 w→All D w→InJ w (Lt w.heap.size) q s) (hl:s.ws.length≤100000):Gives Tryz.prog w0 D 15 #[.agg (jc v s),.agg (jc q s)] (.bool true):=fun w hw ha=>by
 have:=v_rsame v s q s w (hj w hw ha) (hq w hw ha) hl hl
 rw [decide_eq_true rfl] at this
 exact this
theorem g_rsame_d (hd:∀ w,Below w0.heap.size w0 w→All D w→InD w (Lt w.heap.size) u t) (h2:∀ w,Below w0.heap.size w0 w→All D w→InD w (Lt w.heap.size) u2 t):Gives Tryz.prog w0 D 18 #[.agg (dc u t),.agg (dc u2 t)] (.bool true):=fun w hw ha =>
 disk.rsame_yes u.A u2.A t.files.length u.c u2.c w.heap.size t.room t.fuse t.down t.files w (Nat.le_refl _) (hd w hw ha).files (h2 w hw ha).files rfl (Nat.le_trans (hd w hw ha).l (hd w hw ha).c)
end
end Go.Proofs.YtalhdalinpdanaaGreatDoor.wal
end
