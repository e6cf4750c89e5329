/-
  WalI7, WalG, WalR1, WalR3, WalR4, WalR5, WalR6, WalR7, WalR8, WalP
-/
import Derived.Test.YtalhdalinpdanaaGreatDoorMwd34
import Derived.Test.YtalhdalinpdanaaGreatDoorMwd35
import Derived.Test.YtalhdalinpdanaaGreatDoorMwd33
import Derived.Test.YtalhdalinpdanaaGreatDoorMwd26
import Derived.Test.YtalhdalinpdanaaGreatDoorMwd27
import Derived.Test.YtalhdalinpdanaaGreatDoorMwd38
import Derived.Test.YtalhdalinpdanaaGreatDoorMwd39
import Derived.Test.YtalhdalinpdanaaGreatDoorMwd32
import Derived.Test.YtalhdalinpdanaaGreatDoorMwd18
set_option linter.unusedVariables false
set_option linter.unusedSimpArgs false
section
namespace Go.Proofs.YtalhdalinpdanaaGreatDoor.wal
open Go.RowKit Go.Proofs.YtalhdalinpdanaaGreatDoor Go.Proofs.YtalhdalinpdanaaGreatDoor.frame Go.Proofs.YtalhdalinpdanaaGreatDoor.disk
set_option maxRecDepth 20000
def newF (s:Wl) (k b0 b1 b2 b3 b4 b5:Int):FrameD:=⟨s.e,s.n,k,b0,b1,b2,b3,b4,b5⟩
section
variable {w0:World} {D:List Fact} {S:Nat→Prop} {v:Jv} {s:Wl} {k b0 b1 b2 b3 b4 b5:Int}
theorem newF_fine {w:World} (h:InJ w S v s) (hk:inI k) (hb:inI b0∧inI b1∧inI b2∧inI b3∧inI b4∧inI b5):(newF s k b0 b1 b2 b3 b4 b5).fine:=⟨h.e,h.n,hk,hb⟩
theorem put_arg (h:right s=false∨(k < 1∨6 < k)):putW s k b0 b1 b2 b3 b4 b5=(s,1):=by unfold putW;rw [if_pos h]
theorem put_over (hr:right s=true) (h:¬ (k < 1∨6 < k)∧1000000000 < s.n):putW s k b0 b1 b2 b3 b4 b5=(s,3):=by
 unfold putW;rw [if_neg (by rw [hr];simp;omega),if_pos h.2]
theorem put_full (hr:right s=true) (h:¬ (k < 1∨6 < k)∧¬ 1000000000 < s.n∧32≤s.ws.length):putW s k b0 b1 b2 b3 b4 b5=(s,6):=by
 unfold putW;rw [if_neg (by rw [hr];simp;omega),if_neg h.2.1,if_pos h.2.2]
theorem put_yes (hr:right s=true) (h:¬ (k < 1∨6 < k)∧¬ 1000000000 < s.n∧¬ 32≤s.ws.length):putW s k b0 b1 b2 b3 b4 b5=({ s with ws:=s.ws++[newF s k b0 b1 b2 b3 b4 b5],n:=s.n+1 },0):=by
 unfold putW;rw [if_neg (by rw [hr];simp;omega),if_neg h.2.1,if_neg h.2.2];rfl
theorem put_in {w' : World} {A:Option Addr} {c:Nat} {l:List FrameD} (h:InJ w0 S v s) (hf:1≤s.e∧s.e≤1000000∧1≤s.n∧s.n≤1000000001∧0≤s.u∧s.u < s.n∧s.ws.length≤32∧(s.ws.length:Int)=s.n - 1 - s.u∧((s.g=0∧s.c=0)∨(1≤s.g∧1≤s.c∧s.c≤8∧s.g=s.u+1 - s.c))) (ho:OwnElems rdFrame 9 w' 0 72 (fun _=>False) A l.length c l) (hy:∀ q,(ownF rdFrame 9 72 A l.length c l).S q→w0.heap.size≤q∧q < w'.heap.size) :
  InJ w' (Nw S w0 w') ⟨A,c⟩ { s with ws:=l,n:=s.n+1 } :=
 ⟨own_new keeps_frame (by decide) ho (fun q hq=>.inr (hy q hq)) (fun h=>frame_any h),ho.cap.1,ho.cap.2,h.e,by unfold inI;simp only;omega,h.u,h.g,h.k⟩
theorem q_j {v' : Jv} {s' : Wl} {e:Int} {r:Wl × Int} (hr:r=(s',e)) (hd:∀ w',Below w0.heap.size w0 w'→All D w'→(∀ f ∈ D,∀ k,f.S k→w0.heap.size≤k∧k < w'.heap.size)→InJ w' (Nw S w0 w') v' s') :
  ∃ x:Jv,(.tuple #[.agg (jc v' s'),.int .i64 e]:Value) = .tuple #[.agg (jc x r.1),.int .i64 r.2]∧Concl w0 D (fun w'=>InJ w' (Nw S w0 w') x r.1):=by
 subst hr
 exact ⟨v',rfl,fun w' hb ha hy=>hd w' hb ha hy⟩
end
theorem v_put (v:Jv) (s:Wl) (k b0 b1 b2 b3 b4 b5:Int) (S:Nat→Prop)  (w:World) (h0:InJ w S v s) (hS:∀ k,S k→k < w.heap.size) (hk:inI k) (hb:inI b0∧inI b1∧inI b2∧inI b3∧inI b4∧inI b5):Calls Tryz.prog 11 #[.agg (jc v s),.int .i64 k,.agg #[.int .i64 b0,.int .i64 b1,.int .i64 b2,.int .i64 b3,.int .i64 b4,.int .i64 b5]] w fun e w' => ∃ x:Jv,e = .returned (.tuple #[.agg (jc x (putW s k b0 b1 b2 b3 b4 b5).1),.int .i64 (putW s k b0 b1 b2 b3 b4 b5).2])∧Below w.heap.size w w'∧(fun w'=>InJ w' (Nw S w w') x (putW s k b0 b1 b2 b3 b4 b5).1) w' :=
 have h:=h0.all hS
 calls_q (fn:=Tryz.f11) (r:=fun (x:Jv)=>.tuple #[.agg (jc x (putW s k b0 b1 b2 b3 b4 b5).1),.int .i64 (putW s k b0 b1 b2 b3 b4 b5).2]) (Q:=fun (x:Jv)=>fun w'=>InJ w' (Nw S w w') x (putW s k b0 b1 b2 b3 b4 b5).1) (t:=let k0:=s.ws++[newF s k b0 b1 b2 b3 b4 b5];let k1:(Nat)→List Fact:=fun x=>[cellsF x (fc (newF s k b0 b1 b2 b3 b4 b5)) 72];let k2:=Option Addr × Nat;let k3:(Nat)→Value:=fun x=>.slice (some ⟨x,0,none⟩) 1 1;let k4:Value:=.int .i64 (s.n+1); .cs (right s) (.k (.s (.k .z) (.k (.s .z (.s .z (.s .z (.o [0] (.two (.two (.cm k2 (fun x=>.slice x.1 s.ws.length x.2) (fun x=>[ownF rdFrame 9 72 x.1 s.ws.length x.2 s.ws]) (fun x6=>.w (Nat) none k3 k1 (fun x7=>.w k2 (some 1) (fun x=>.slice x.1 (k0.length) x.2) (fun x=>[ownF rdFrame 9 72 x.1 (k0.length) x.2 k0]) (fun x8=>.e k4 .z)))) (.w (Nat) none k3 k1 (fun x9=>.cm k2 (fun x=>.slice x.1 s.ws.length x.2) (fun x=>[ownF rdFrame 9 72 x.1 s.ws.length x.2 s.ws]) (fun x10=>.w k2 (some 0) (fun x=>.slice x.1 (k0.length) x.2) (fun x=>[ownF rdFrame 9 72 x.1 (k0.length) x.2 k0]) (fun x11=>.e k4 .z))))) (.w (Nat) none k3 k1 (fun x12=>.cm k2 (fun x=>.slice x.1 s.ws.length x.2) (fun x=>[ownF rdFrame 9 72 x.1 s.ws.length x.2 s.ws]) (fun x13=>.w k2 (some 0) (fun x=>.slice x.1 (k0.length) x.2) (fun x=>[ownF rdFrame 9 72 x.1 (k0.length) x.2 k0]) (fun x14=>.e k4 .z)))))))))))) (.k (.k .z))) (X :=
 let k0:=s.ws++[newF s k b0 b1 b2 b3 b4 b5];let k1:=putW s k b0 b1 b2 b3 b4 b5;let k2:=fc (newF s k b0 b1 b2 b3 b4 b5);let k3:=(.int .i64 (IntKind.i64.wrap (s.n+1)):Value);let k4:=Option Addr × Nat;let k5:=(.tuple #[.agg (jc v s),.int .i64 1]:Value);let k6:=Instr.buildSlice 22 1 #[(0,.agg k2)];let k7:(Nat)→Value:=fun x=>.slice (some ⟨x,0,none⟩) 1 1;let k8:Array Value:=#[.slice v.A s.ws.length v.c];let k9:=decide ((s.ws.length:Int) ≥ 32);let k10:=decide (s.n > 1000000000); ∀ g0:Nat,∀ g1:Nat,∀ g2:Nat,Gives Tryz.prog w [] 13 #[.agg (jc v s)] (.bool (right s))∧((right s)=true→((decide (k < 1))=true→∃ x:Jv,k5 = .tuple #[.agg (jc x k1.1),.int .i64 k1.2]∧Concl w [] (fun w'=>InJ w' (Nw S w w') x k1.1))∧((decide (k < 1))=false→((decide (k > 6))=true→∃ x:Jv,k5 = .tuple #[.agg (jc x k1.1),.int .i64 k1.2]∧Concl w [] (fun w'=>InJ w' (Nw S w w') x k1.1))∧((decide (k > 6))=false→(k10=true→∃ x:Jv,(.tuple #[.agg (jc v s),.int .i64 3]:Value) = .tuple #[.agg (jc x k1.1),.int .i64 k1.2]∧Concl w [] (fun w'=>InJ w' (Nw S w w') x k1.1))∧(k10=false→(k9=true→∃ x:Jv,(.tuple #[.agg (jc v s),.int .i64 6]:Value) = .tuple #[.agg (jc x k1.1),.int .i64 k1.2]∧Concl w [] (fun w'=>InJ w' (Nw S w w') x k1.1))∧(k9=false→∀ g3:Nat,((GivesM Tryz.prog w [] 32 k8 k4 (fun x=>.slice x.1 s.ws.length x.2) (fun x=>[ownF rdFrame 9 72 x.1 s.ws.length x.2 s.ws])∧∀ x6:Option Addr × Nat,StepM Tryz.prog w [ownF rdFrame 9 72 x6.1 s.ws.length x6.2 s.ws] k6 (fun _=>False) (Nat) k7 (fun x=>[cellsF x k2 72])∧∀ x7:Nat,(∀ x:Option Addr × Nat,Imp w [ownF rdFrame 9 72 x.1 (k0.length) x.2 k0,cellsF x7 k2 72] [])∧StepM Tryz.prog w [cellsF x7 k2 72,ownF rdFrame 9 72 x6.1 s.ws.length x6.2 s.ws] (Builtin.append_ #[22,22] 22 #[.slice x6.1 s.ws.length x6.2,.slice (some ⟨x7,0,none⟩) 1 1]) ((ownF rdFrame 9 72 x6.1 s.ws.length x6.2 s.ws).S) k4 (fun x=>.slice x.1 (k0.length) x.2) (fun x=>[ownF rdFrame 9 72 x.1 (k0.length) x.2 k0])∧∀ x8:Option Addr × Nat,k3 = .int .i64 (s.n+1)∧∃ x:Jv,(.tuple #[.agg #[.int .i64 s.e,.int .i64 (s.n+1),.int .i64 s.u,.int .i64 s.g,.int .i64 s.c,.slice x8.1 (k0.length) x8.2],.int .i64 0]:Value) = .tuple #[.agg (jc x k1.1),.int .i64 k1.2]∧Concl w [ownF rdFrame 9 72 x8.1 (k0.length) x8.2 k0,cellsF x7 k2 72] (fun w'=>InJ w' (Nw S w w') x k1.1))∧(StepM Tryz.prog w [] k6 (fun _=>False) (Nat) k7 (fun x=>[cellsF x k2 72])∧∀ x9:Nat,GivesM Tryz.prog w [cellsF x9 k2 72] 32 k8 k4 (fun x=>.slice x.1 s.ws.length x.2) (fun x=>[ownF rdFrame 9 72 x.1 s.ws.length x.2 s.ws])∧∀ x10:Option Addr × Nat,(∀ x:Option Addr × Nat,Imp w [ownF rdFrame 9 72 x.1 (k0.length) x.2 k0,cellsF x9 k2 72] [])∧StepM Tryz.prog w [ownF rdFrame 9 72 x10.1 s.ws.length x10.2 s.ws,cellsF x9 k2 72] (Builtin.append_ #[22,22] 22 #[.slice x10.1 s.ws.length x10.2,.slice (some ⟨x9,0,none⟩) 1 1]) ((ownF rdFrame 9 72 x10.1 s.ws.length x10.2 s.ws).S) k4 (fun x=>.slice x.1 (k0.length) x.2) (fun x=>[ownF rdFrame 9 72 x.1 (k0.length) x.2 k0])∧∀ x11:Option Addr × Nat,k3 = .int .i64 (s.n+1)∧∃ x:Jv,(.tuple #[.agg #[.int .i64 s.e,.int .i64 (s.n+1),.int .i64 s.u,.int .i64 s.g,.int .i64 s.c,.slice x11.1 (k0.length) x11.2],.int .i64 0]:Value) = .tuple #[.agg (jc x k1.1),.int .i64 k1.2]∧Concl w [ownF rdFrame 9 72 x11.1 (k0.length) x11.2 k0,cellsF x9 k2 72] (fun w'=>InJ w' (Nw S w w') x k1.1)))∧(StepM Tryz.prog w [] k6 (fun _=>False) (Nat) k7 (fun x=>[cellsF x k2 72])∧∀ x12:Nat,GivesM Tryz.prog w [cellsF x12 k2 72] 32 k8 k4 (fun x=>.slice x.1 s.ws.length x.2) (fun x=>[ownF rdFrame 9 72 x.1 s.ws.length x.2 s.ws])∧∀ x13:Option Addr × Nat,(∀ x:Option Addr × Nat,Imp w [ownF rdFrame 9 72 x.1 (k0.length) x.2 k0,cellsF x12 k2 72] [])∧StepM Tryz.prog w [ownF rdFrame 9 72 x13.1 s.ws.length x13.2 s.ws,cellsF x12 k2 72] (Builtin.append_ #[22,22] 22 #[.slice x13.1 s.ws.length x13.2,.slice (some ⟨x12,0,none⟩) 1 1]) ((ownF rdFrame 9 72 x13.1 s.ws.length x13.2 s.ws).S) k4 (fun x=>.slice x.1 (k0.length) x.2) (fun x=>[ownF rdFrame 9 72 x.1 (k0.length) x.2 k0])∧∀ x14:Option Addr × Nat,k3 = .int .i64 (s.n+1)∧∃ x:Jv,(.tuple #[.agg #[.int .i64 s.e,.int .i64 (s.n+1),.int .i64 s.u,.int .i64 s.g,.int .i64 s.c,.slice x14.1 (k0.length) x14.2],.int .i64 0]:Value) = .tuple #[.agg (jc x k1.1),.int .i64 k1.2]∧Concl w [ownF rdFrame 9 72 x14.1 (k0.length) x14.2 k0,cellsF x12 k2 72] (fun w'=>InJ w' (Nw S w w') x k1.1)))))))∧((right s)=false→∃ x:Jv,k5 = .tuple #[.agg (jc x k1.1),.int .i64 k1.2]∧Concl w [] (fun w'=>InJ w' (Nw S w w') x k1.1))) Tryz.func11 (by kernel_rfl)
 (fun g0=>fun g1=>fun g2=>⟨(fun w1 hw _=>v_right v s w1 (h.later hw)),fun h1=>⟨fun h2=>have h2:k < 1:=(by simpa using h2)
(q_j (put_arg (.inr (by omega))) (fun w1 hb ha hy=>(h0.keep (low_alike hS hb) (fun _ h=>.inl h)))),
 fun h2=>have h2:¬ k < 1:=(by simpa using h2)
⟨fun h3=>have h3:6 < k:=(by simpa using h3)
(q_j (put_arg (.inr (by omega))) (fun w1 hb ha hy=>(h0.keep (low_alike hS hb) (fun _ h=>.inl h)))),
 fun h3=>have h3:¬ 6 < k:=(by simpa using h3)
⟨fun h4=>have h4:1000000000 < s.n:=(by simpa using h4)
(q_j (put_over h1 (by omega)) (fun w1 hb ha hy=>(h0.keep (low_alike hS hb) (fun _ h=>.inl h)))),
 fun h4=>have h4:¬ 1000000000 < s.n:=(by simpa using h4)
⟨fun h5=>have h5:¬ (s.ws.length:Int) < 32:=(by simpa using h5)
(q_j (put_full h1 (by omega)) (fun w1 hb ha hy=>(h0.keep (low_alike hS hb) (fun _ h=>.inl h)))),
 fun h5=>have h5:(s.ws.length:Int) < 32:=(by simpa using h5)
 fun g3=>⟨⟨⟨(fun w1 hw _=>v_clone v.A v.c s.ws w1 (h.later hw).f (by omega)),fun x6=>⟨(build_step2 (by kernel_rfl) (fun g=>by kernel_rfl)),fun x7=>⟨fun x w _ ha=>trivial,(step_to2 (by simp) rfl (append_core keeps_frame leaf_frame (by decide) Tryz.underlying22 info_frame rfl (fun _ h=>h) (row_at (j:=1) rfl) (fun w _ ha=>one_elem (block_at (j:=0) rfl w ha) rfl ⟨rfl,newF_fine h0 hk hb⟩) rfl (by unfold maxLen;omega) (by omega) (fun h=>h))),fun x8=>⟨wrap_is rfl (by have:=right_facts h1;omega) (by have:=right_facts h1;omega),(q_j (v':=⟨x8.1,x8.2⟩) (s':={ s with ws:=s.ws++[newF s k b0 b1 b2 b3 b4 b5],n:=s.n+1 }) (put_yes h1 (by omega)) (fun w1 hb1 ha hy=>put_in h0 (right_facts h1) (row_at (j:=0) rfl w1 ha) (fun q hq=>hy _ (List.mem_of_getElem? (i:=0) rfl) q hq)))⟩⟩⟩⟩,
⟨(build_step2 (by kernel_rfl) (fun g=>by kernel_rfl)),fun x9=>⟨(fun w1 hw _=>v_clone v.A v.c s.ws w1 (h.later hw).f (by omega)),fun x10=>⟨fun x w _ ha=>trivial,(step_to2 (by simp) rfl (append_core keeps_frame leaf_frame (by decide) Tryz.underlying22 info_frame rfl (fun _ h=>h) (row_at (j:=0) rfl) (fun w _ ha=>one_elem (block_at (j:=1) rfl w ha) rfl ⟨rfl,newF_fine h0 hk hb⟩) rfl (by unfold maxLen;omega) (by omega) (fun h=>h))),fun x11=>⟨wrap_is rfl (by have:=right_facts h1;omega) (by have:=right_facts h1;omega),(q_j (v':=⟨x11.1,x11.2⟩) (s':={ s with ws:=s.ws++[newF s k b0 b1 b2 b3 b4 b5],n:=s.n+1 }) (put_yes h1 (by omega)) (fun w1 hb1 ha hy=>put_in h0 (right_facts h1) (row_at (j:=0) rfl w1 ha) (fun q hq=>hy _ (List.mem_of_getElem? (i:=0) rfl) q hq)))⟩⟩⟩⟩⟩,
⟨(build_step2 (by kernel_rfl) (fun g=>by kernel_rfl)),fun x12=>⟨(fun w1 hw _=>v_clone v.A v.c s.ws w1 (h.later hw).f (by omega)),fun x13=>⟨fun x w _ ha=>trivial,(step_to2 (by simp) rfl (append_core keeps_frame leaf_frame (by decide) Tryz.underlying22 info_frame rfl (fun _ h=>h) (row_at (j:=0) rfl) (fun w _ ha=>one_elem (block_at (j:=1) rfl w ha) rfl ⟨rfl,newF_fine h0 hk hb⟩) rfl (by unfold maxLen;omega) (by omega) (fun h=>h))),fun x14=>⟨wrap_is rfl (by have:=right_facts h1;omega) (by have:=right_facts h1;omega),(q_j (v':=⟨x14.1,x14.2⟩) (s':={ s with ws:=s.ws++[newF s k b0 b1 b2 b3 b4 b5],n:=s.n+1 }) (put_yes h1 (by omega)) (fun w1 hb1 ha hy=>put_in h0 (right_facts h1) (row_at (j:=0) rfl w1 ha) (fun q hq=>hy _ (List.mem_of_getElem? (i:=0) rfl) q hq)))⟩⟩⟩⟩⟩⟩⟩⟩⟩,
 fun h1=>(q_j (put_arg (.inl h1)) (fun w1 hb ha hy=>(h0.keep (low_alike hS hb) (fun _ h=>.inl h))))⟩)
end Go.Proofs.YtalhdalinpdanaaGreatDoor.wal
end
section
namespace Go.Proofs.YtalhdalinpdanaaGreatDoor.wal
set_option maxRecDepth 20000
open Go.RowKit Go.Proofs.YtalhdalinpdanaaGreatDoor Go.Proofs.YtalhdalinpdanaaGreatDoor.frame Go.Proofs.YtalhdalinpdanaaGreatDoor.disk
theorem turns_trans {w0:World} {D fs gs:List Fact} (h:Turns w0 D fs) (h' : Turns w0 fs gs):Turns w0 D gs:=fun h1 h2=>by
 obtain ⟨a1,a2,a3,a4⟩:=h h1 h2
 obtain ⟨b1,b2,b3,b4⟩:=h' a1 a2
 refine ⟨b1,b2,fun f hf k hk=>?_,fun w hb ha=>b4 w hb (a4 w hb ha)⟩
 obtain ⟨g,hg,hk2⟩:=b3 f hf k hk
 exact a3 g hg k hk2
abbrev turnAt {β δ:Type} {S:Nat→Prop} {W:World} {R:World→(Nat→Prop)→β→Prop} {R2:World→(Nat→Prop)→δ→Prop} (x:Dat R S W) (d:δ) (h:R2 x.1.1 (fun k=>S k∨x.1.2.1 k) d):Dat R2 S W:=⟨(x.1.1,x.1.2.1,d),h,x.2.2⟩
section
variable {S:Nat→Prop} {W:World} {α β γ δ:Type} {RA:World→(Nat→Prop)→α→Prop} {RB' : World→(Nat→Prop)→β→Prop} {RC:World→(Nat→Prop)→γ→Prop} {RD' : World→(Nat→Prop)→δ→Prop}
end
abbrev TabW (w : World) : Prop := Lib.TabIs Tryz.prog w "internal/strconv.uint64pow10" .u64 Lib.pow10Tab
section
variable {w0 W:World} {D:List Fact} {S:Nat→Prop} {v:Jv} {s:Wl} {u:Dv} {t:DiskD}
theorem g_wput {k b0 b1 b2 b3 b4 b5:Int} {r:Wl × Int} (e:putW s k b0 b1 b2 b3 b4 b5=r) (hF:Fixed w0 D S W) (hj:∀ w,Below w0.heap.size w0 w→All D w→InJ w S v s) (hk:inI k) (hb:inI b0∧inI b1∧inI b2∧inI b3∧inI b4∧inI b5) :
  GivesM Tryz.prog w0 D 11 #[.agg (jc v s),.int .i64 k,.agg #[.int .i64 b0,.int .i64 b1,.int .i64 b2,.int .i64 b3,.int .i64 b4,.int .i64 b5]] (Dat (fun w S v=>InJ w S v r.1) S W) (fun x=>.tuple #[.agg (jc x.1.2.2 r.1),.int .i64 r.2]) (fun x=>[poolF x.1.1 x.1.2.1]):=by
 subst e
 exact gives_dat (R:=fun w S v=>InJ w S v (putW s k b0 b1 b2 b3 b4 b5).1) (r:=fun b=>.tuple #[.agg (jc b (putW s k b0 b1 b2 b3 b4 b5).1),.int .i64 (putW s k b0 b1 b2 b3 b4 b5).2]) hF (fun w hw ha=>v_put v s k b0 b1 b2 b3 b4 b5 S w (hj w hw ha) (hF w hw ha).2 hk hb)
theorem g_wcommit {r:Wl × DiskD × Int} (e:commitL s t=r) (hF:Fixed w0 D S W) (hj:∀ w,Below w0.heap.size w0 w→All D w→InJ w S v s) (hd:∀ w,Below w0.heap.size w0 w→All D w→InD w S u t) (hs:shortB t.files=true) (ht:TabW w0) (he:ErrVar w0) :
  GivesM Tryz.prog w0 D 16 #[.agg (jc v s),.agg (dc u t)] (Dat (RW r) S W) (fun x=>.tuple #[.agg (jc x.1.2.2.1 r.1),.agg (dc x.1.2.2.2 r.2.1),.int .i64 r.2.2]) (fun x=>[poolF x.1.1 x.1.2.1]):=by
 subst e
 exact gives_dat (R:=RW (commitL s t)) (r:=fun b=>.tuple #[.agg (jc b.1 (commitL s t).1),.agg (dc b.2 (commitL s t).2.1),.int .i64 (commitL s t).2.2]) hF (fun w hw ha=>v_commit v s u t S w (hj w hw ha) (hd w hw ha) (hF w hw ha).2 hs (var_later ht hw) (ev_later he hw))
theorem g_wdrop {lsn:Int} {r:DiskD × Int} (e:dropL s t lsn=r) (hF:Fixed w0 D S W) (hj:∀ w,Below w0.heap.size w0 w→All D w→InJ w S v s) (hd:∀ w,Below w0.heap.size w0 w→All D w→InD w S u t) (hs:shortB t.files=true) (ht:TabW w0) (he:ErrVar w0) :
  GivesM Tryz.prog w0 D 19 #[.agg (jc v s),.agg (dc u t),.int .i64 lsn] (Dat (fun w S v=>InD w S v r.1) S W) (fun x=>.tuple #[.agg (dc x.1.2.2 r.1),.int .i64 r.2]) (fun x=>[poolF x.1.1 x.1.2.1]):=by
 subst e
 exact gives_dat (R:=fun w S v=>InD w S v (dropL s t lsn).1) (r:=fun b=>.tuple #[.agg (dc b (dropL s t lsn).1),.int .i64 (dropL s t lsn).2]) hF (fun w hw ha=>v_drop v s u t lsn S w (hj w hw ha) (hd w hw ha) (hF w hw ha).2 hs (var_later ht hw) (ev_later he hw))
theorem g_back {A:Option Addr} {c:Nat} {fu:Int} {ks:List Int} {r:DiskD × Int} (e:backD t ks fu=r) (hF:Fixed w0 D S W) (hd:∀ w,Below w0.heap.size w0 w→All D w→InD w S u t) (hs:shortB t.files=true) (hb:∀ w,Below w0.heap.size w0 w→All D w→IntsIn .i64 w S A ks) (hc:ks.length≤c) (hm:c≤maxLen) (hl:ks.length≤80) (hf:inI fu) :
  GivesM Tryz.prog w0 D 29 #[.agg (dc u t),.slice A ks.length c,.int .i64 fu] (Dat (fun w S v=>InD w S v r.1) S W) (fun x=>.tuple #[.agg (dc x.1.2.2 r.1),.int .i64 r.2]) (fun x=>[poolF x.1.1 x.1.2.1]):=by
 subst e
 exact gives_dat (R:=fun w S v=>InD w S v (backD t ks fu).1) (r:=fun b=>.tuple #[.agg (dc b (backD t ks fu).1),.int .i64 (backD t ks fu).2]) hF (fun w hw ha=>d_back (hF w hw ha).2 (hd w hw ha) hs (hb w hw ha) hc hm hl hf)
theorem g_wsegs {l:List Int} (e:segs t=l) (hd:∀ w,Below w0.heap.size w0 w→All D w→InD w (Lt w.heap.size) u t) (hs:shortB t.files=true) (ht:TabW w0) (he:ErrVar w0) :
  GivesM Tryz.prog w0 D 21 #[.agg (dc u t)] (Option Addr × Nat) (fun x=>.slice x.1 l.length x.2) (fun x=>[ownF (rdInt .i64) 1 2 x.1 l.length x.2 l]):=by
 subst e
 exact fun w hw ha=>v_segments u t w (hd w hw ha) hs (var_later ht hw) (ev_later he hw)
theorem g_wright {b:Bool} (e:right s=b) (hj:∀ w,Below w0.heap.size w0 w→All D w→InJ w (Lt w.heap.size) v s):Gives Tryz.prog w0 D 13 #[.agg (jc v s)] (.bool b):=fun w hw ha=>by
 subst e;exact v_right v s w (hj w hw ha)
end
end Go.Proofs.YtalhdalinpdanaaGreatDoor.wal
end
section
namespace Go.Proofs.YtalhdalinpdanaaGreatDoor.wal
open Go.RowKit Go.Proofs.YtalhdalinpdanaaGreatDoor Go.Proofs.YtalhdalinpdanaaGreatDoor.frame Go.Proofs.YtalhdalinpdanaaGreatDoor.disk
set_option maxRecDepth 20000
section
variable {w0:World} {D:List Fact}
end
end Go.Proofs.YtalhdalinpdanaaGreatDoor.wal
end
section
namespace Go.Proofs.YtalhdalinpdanaaGreatDoor.wal
open Go.RowKit Go.Proofs.YtalhdalinpdanaaGreatDoor Go.Proofs.YtalhdalinpdanaaGreatDoor.frame Go.Proofs.YtalhdalinpdanaaGreatDoor.disk
set_option maxRecDepth 20000
section
variable {P:Program} {w0:World} {D:List Fact}
end
end Go.Proofs.YtalhdalinpdanaaGreatDoor.wal
end
section
namespace Go.Proofs.YtalhdalinpdanaaGreatDoor.wal
open Go.RowKit Go.Proofs.YtalhdalinpdanaaGreatDoor Go.Proofs.YtalhdalinpdanaaGreatDoor.frame Go.Proofs.YtalhdalinpdanaaGreatDoor.disk
set_option maxRecDepth 20000
section
variable {nm:ByteArray} {y:Nat}
variable {P:Program} {w0:World} {D:List Fact}
end
end Go.Proofs.YtalhdalinpdanaaGreatDoor.wal
end
section
namespace Go.Proofs.YtalhdalinpdanaaGreatDoor.wal
open Go.RowKit Go.Proofs.YtalhdalinpdanaaGreatDoor Go.Proofs.YtalhdalinpdanaaGreatDoor.frame Go.Proofs.YtalhdalinpdanaaGreatDoor.disk
set_option maxRecDepth 20000
section
variable {w0:World} {D:List Fact} {v:Dv} {s:DiskD}
end
end Go.Proofs.YtalhdalinpdanaaGreatDoor.wal
end
section
namespace Go.Proofs.YtalhdalinpdanaaGreatDoor.wal
open Go.RowKit Go.Proofs.YtalhdalinpdanaaGreatDoor Go.Proofs.YtalhdalinpdanaaGreatDoor.frame Go.Proofs.YtalhdalinpdanaaGreatDoor.disk
set_option maxRecDepth 20000
section
variable {w0 w1:World} {D:List Fact} {S:Nat→Prop} {u:Dv} {t:DiskD} {s:Wl}
end
end Go.Proofs.YtalhdalinpdanaaGreatDoor.wal
end
section
namespace Go.Proofs.YtalhdalinpdanaaGreatDoor.wal
open Go.RowKit Go.Proofs.YtalhdalinpdanaaGreatDoor Go.Proofs.YtalhdalinpdanaaGreatDoor.frame Go.Proofs.YtalhdalinpdanaaGreatDoor.disk
set_option maxRecDepth 20000
section
variable {d:DiskD} {lsn L:Int} {i:Nat} {s:Wl} {t:DiskD}
end
section
variable {w0 W:World} {D:List Fact} {S:Nat→Prop} {u:Dv} {t:DiskD}
end
end Go.Proofs.YtalhdalinpdanaaGreatDoor.wal
end
section
namespace Go.Proofs.YtalhdalinpdanaaGreatDoor.wal
open Go.RowKit Go.Proofs.YtalhdalinpdanaaGreatDoor Go.Proofs.YtalhdalinpdanaaGreatDoor.frame Go.Proofs.YtalhdalinpdanaaGreatDoor.disk
set_option maxRecDepth 20000
section
variable {s a:Wl} {t b:DiskD} {G C:Int} {k:Nat}
end
section
variable {w0 W:World} {D:List Fact} {S:Nat→Prop} {v:Jv} {s:Wl} {u:Dv} {t:DiskD}
end
end Go.Proofs.YtalhdalinpdanaaGreatDoor.wal
end
section
namespace Go.Proofs.YtalhdalinpdanaaGreatDoor.wal
set_option maxRecDepth 20000
open Go.RowKit Go.Proofs.YtalhdalinpdanaaGreatDoor Go.Proofs.YtalhdalinpdanaaGreatDoor.frame Go.Proofs.YtalhdalinpdanaaGreatDoor.disk
theorem named_name (n:Int):named (nameOf n)=true:=by
 have e:(nameOf n).data.toList=(nameL n.toNat).map Nat.toUInt8:=rfl
 have hs:(nameOf n).size=14:=by
  show (nameOf n).data.size=14
  rw [← Array.length_toList,e,List.length_map,nameL_len]
 unfold named
 rw [e,hs]
 simp only [Bool.and_eq_true,decide_eq_true_eq,List.all_eq_true,List.mem_map]
 refine ⟨⟨?_,by omega⟩,by omega⟩
 rintro c ⟨x,hx,rfl⟩
 unfold nameL at hx
 rcases List.mem_append.1 hx with hx | hx
 ·simp at hx
  rcases hx with rfl | rfl | rfl | rfl<;>decide
 ·have h1:=List.all_eq_true.1 (dg_digit 10 n.toNat) x hx
  unfold digit at h1
  simp only [Bool.and_eq_true,decide_eq_true_eq] at h1
  have hc:∀ x:Nat,x < 58→48≤x→signOk x.toUInt8=true:=by decide
  exact hc x (by omega) h1.1
def fileN (fs:List FileD) (nm:ByteArray) (b:List Nat):FileD:=⟨nm,(oldOf nm fs).data++b,(((oldOf nm fs).data++b).length:Nat)⟩
def addF (fs:List FileD) (nm:ByteArray) (b:List Nat):List FileD:=withF (fileN fs nm b) fs
def addD (d:DiskD) (nm:ByteArray) (b:List Nat):DiskD:=⟨addF d.files nm b,d.room, -1,false⟩
theorem plain_row {d:DiskD} (h:Plain d):Row d.files:=(right_files h.1).2.2.1
theorem old_appF {fs:List FileD} {nm:ByteArray} {b:List Nat} (h:Row fs):oldOf nm (appF fs nm b) = { oldOf nm fs with data:=(oldOf nm fs).data++b }:=by
 have:=look_appF (nm:=nm) (b:=b) h
 unfold oldOf at this ⊢
 rw [this];rfl
theorem plain_write {d:DiskD} (h:Plain d) {nm:ByteArray} {b:List Nat} (hn:named nm=true) (hu:((used d.files+b.length:Nat):Int)≤d.room) (hl:disk.look nm d.files=none→d.files.length < 64) :
  ∃ x,appendD d nm b=(x,0)∧syncD x nm=(addD d nm b,0)∧Plain (addD d nm b):=by
 have hrow:=plain_row h
 have e1:appendD d nm b=(⟨appF d.files nm b,d.room, -1,false⟩,0):=by
  unfold appendD
  rw [plain_op h,hn,appE_iff.2 ⟨hu,hl⟩]
  rfl
 have hp:Plain ⟨appF d.files nm b,d.room, -1,false⟩:=by
  have:=right_append (nm:=nm) (b:=b) h.1
  rw [e1] at this
  exact ⟨this,rfl,rfl⟩
 have e2:syncD ⟨appF d.files nm b,d.room, -1,false⟩ nm=(addD d nm b,0):=by
  unfold syncD
  rw [plain_op hp,hn]
  have hne:noE (appF d.files nm b) nm=0:=by
   unfold noE
   rw [look_appF hrow,if_neg (by simp)]
  show (if (true && true)=true then (if noE (appF d.files nm b) nm≠0 then _ else _) else _)=_
  rw [hne]
  show (DiskD.mk (syncF (appF d.files nm b) nm) d.room (-1) false,(0:Int))=_
  unfold addD addF fileN syncF
  rw [old_appF hrow]
  unfold appF
  rw [with_with hrow (by exact rfl)]
  have hnm:=old_name nm d.files
  simp only [hnm]
 refine ⟨_,e1,e2,?_⟩
 have:=right_sync (nm:=nm) hp.1
 rw [e2] at this
 exact ⟨this,rfl,rfl⟩
theorem look_add {d:DiskD} (h:Plain d) (nm:ByteArray) (b:List Nat):disk.look nm (addF d.files nm b)=some (fileN d.files nm b):=look_with (fileN d.files nm b) (plain_row h)
theorem old_add {d:DiskD} (h:Plain d) (nm:ByteArray) (b:List Nat):oldOf nm (addF d.files nm b)=fileN d.files nm b:=by
 unfold oldOf;rw [look_add h];rfl
theorem add_add {d:DiskD} (h:Plain d) (nm:ByteArray) (a b:List Nat):addD (addD d nm a) nm b=addD d nm (a++b):=by
 unfold addD
 show DiskD.mk (withF (fileN (addF d.files nm a) nm b) (addF d.files nm a)) _ _ _=_
 have e:fileN (addF d.files nm a) nm b=fileN d.files nm (a++b):=by
  unfold fileN
  rw [old_add h]
  simp [fileN,List.append_assoc]
 rw [e]
 unfold addF
 rw [with_with (f:=fileN d.files nm a) (g:=fileN d.files nm (a++b)) (plain_row h) rfl]
theorem mem_add {d:DiskD} (h:Plain d) {nm:ByteArray} {b:List Nat} {f:FileD} : f ∈ addF d.files nm b ↔ f=fileN d.files nm b∨(f ∈ d.files∧f.name≠nm):=mem_with (plain_row h)
theorem used_add {d:DiskD} (h:Plain d) (nm:ByteArray) (b:List Nat):used (addF d.files nm b)=used d.files+b.length∧(addF d.files nm b).length≤d.files.length+1∧(disk.look nm d.files≠none→(addF d.files nm b).length=d.files.length):=by
 have hr:=plain_row h
 have hnn:(fileN d.files nm b).name=nm:=rfl
 have hd:(fileN d.files nm b).data.length=(oldOf nm d.files).data.length+b.length:=by unfold fileN;simp
 unfold addF
 rcases old_cases nm d.files with ⟨e1,e2⟩ | ⟨f,e1,e2,e3,e4⟩
 ·have h2:=with_new (fileN d.files nm b) hr (by rw [hnn];exact look_none e1)
  rw [e2] at hd
  refine ⟨by rw [h2.1,hd];simp,by rw [h2.2];omega,fun hl=>absurd e1 hl⟩
 ·have h2:=with_old (fileN d.files nm b) f hr e3 (by rw [hnn];exact e4)
  rw [e2] at hd
  have:=h2.1
  exact ⟨by omega,by rw [h2.2];omega,fun _=>h2.2⟩
inductive Done:Wl→DiskD→Wl→DiskD→Prop
 |nil {s:Wl} {t:DiskD} (h:s.ws=[]):Done s t s t
 |step {s s' : Wl} {t t' : DiskD} (h:s.ws≠[]) (d:Done (stepW s) (addD t (nameOf (stepW s).g) (scan.put (s.ws.take (room s)))) s' t'):Done s t s' t'
structure Bud (s:Wl) (t:DiskD):Prop where
 p:Plain t
 r:right s=true
 u:((used t.files+72 * s.ws.length:Nat):Int)≤t.room
 l:t.files.length+s.ws.length≤64
theorem step_ws (s:Wl):(stepW s).ws=s.ws.drop (room s):=rfl
theorem room_pos {s:Wl} (hr:right s=true) (hne:s.ws≠[]):1≤room s:=by
 have h1:=room_eq hr (⟨rfl,rfl⟩:StepIs s (begun s).g (begun s).c);have h2:=step_rng hr (⟨rfl,rfl⟩:StepIs s (begun s).g (begun s).c);have:=ws_pos hne
 rw [h1];omega
theorem put_len' (s:Wl):(scan.put (s.ws.take (room s))).length=72 * room s:=by
 rw [scan.put_len,List.length_take,Nat.min_eq_left (room_le s)]
theorem bud_write {s:Wl} {t:DiskD} (h:Bud s t) (hne:s.ws≠[]):writeW s t=(stepW s,addD t (nameOf (stepW s).g) (scan.put (s.ws.take (room s))),0)∧Bud (stepW s) (addD t (nameOf (stepW s).g) (scan.put (s.ws.take (room s)))):=by
 have hle:=room_le s;have hp:=ws_pos hne;have hl:=put_len' s;have h1:=h.u;have h2:=h.l;have h3:=room_pos h.r hne
 obtain ⟨x,e1,e2,e3⟩:=plain_write h.p (named_name (stepW s).g) (b:=scan.put (s.ws.take (room s))) (by rw [hl];omega) (fun _=>by omega)
 have hu:=used_add h.p (nameOf (stepW s).g) (scan.put (s.ws.take (room s)))
 have hw:(stepW s).ws.length=s.ws.length - room s:=by rw [step_ws,List.length_drop]
 refine ⟨?_,e3,(step_right h.r hne).1,?_,?_⟩
 ·unfold writeW
  simp only [e1,e2,if_true]
 ·show ((used (addF t.files _ _)+72 * (stepW s).ws.length:Nat):Int)≤t.room
  rw [hu.1,hl,hw];omega
 ·show (addF t.files _ _).length+(stepW s).ws.length≤64
  have:=hu.2.1
  rw [hw];omega
theorem step_ne (s:Wl):(stepW s).n=s.n∧(stepW s).e=s.e:=by unfold stepW begun;split<;>exact ⟨rfl,rfl⟩
theorem commit_done:∀ (k:Nat) (s:Wl) (t:DiskD),Bud s t→s.ws.length≤k→∃ s' t',Done s t s' t'∧commitA k s t=(s',t',0)∧Bud s' t'∧s'.ws=[]∧s'.n=s.n∧s'.e=s.e
 | 0,s,t,h,hk=>⟨s,t,.nil (List.eq_nil_of_length_eq_zero (by omega)),rfl,h,List.eq_nil_of_length_eq_zero (by omega),rfl,rfl⟩
 |k+1,s,t,h,hk=>by
  unfold commitA
  by_cases hne:s.ws=[]
  ·rw [if_pos hne];exact ⟨s,t,.nil hne,rfl,h,hne,rfl,rfl⟩
  ·obtain ⟨e,hb⟩:=bud_write h hne
   have h1:=(step_right h.r hne).2
   obtain ⟨s',t',h2,h3,h4,h5,h6,h7⟩:=commit_done k _ _ hb (by omega)
   rw [if_neg hne,e,if_pos rfl]
   exact ⟨s',t',.step hne h2,h3,h4,h5,h6.trans (step_ne s).1,h7.trans (step_ne s).2⟩
theorem Done.uniq {s a b:Wl} {t x y:DiskD} (h:Done s t a x) (h2:Done s t b y):a=b∧x=y:=by
 induction h with
 |nil e =>
  cases h2 with
  |nil _=>exact ⟨rfl,rfl⟩
  |step hne _=>exact absurd e hne
 |step hne d ih =>
  cases h2 with
  |nil e=>exact absurd e hne
  |step _ d2=>exact ih d2
abbrev wit (s:Wl) (n:Int) (ws:List FrameD):Wl:=⟨s.e,n,s.u,s.g,s.c,ws⟩
theorem begun_wit (s:Wl) (n:Int) (ws:List FrameD):(begun (wit s n ws)).g=(begun s).g∧(begun (wit s n ws)).c=(begun s).c∧(begun (wit s n ws)).u=s.u∧(begun (wit s n ws)).n=n∧(begun (wit s n ws)).e=s.e:=by
 unfold begun
 by_cases h:s.g=0∨s.c=8
 ·simp [h]
 ·simp [h]
theorem step_wit {s:Wl} {n:Int} {ws:List FrameD} {r:Nat} (h:room (wit s n ws)=r):stepW (wit s n ws)=⟨s.e,n,s.u+(r:Int),(begun s).g,(begun s).c+(r:Int),ws.drop r⟩:=by
 obtain ⟨h1,h2,h3,h4,h5⟩:=begun_wit s n ws
 show (⟨(begun (wit s n ws)).e,(begun (wit s n ws)).n,s.u+(room (wit s n ws):Int),(begun (wit s n ws)).g,(begun (wit s n ws)).c+(room (wit s n ws):Int),ws.drop (room (wit s n ws))⟩:Wl)=_
 rw [h,h1,h2,h4,h5]
theorem room_wit (s:Wl) (n:Int) (ws:List FrameD):room (wit s n ws)=min ws.length (8 - (begun s).c).toNat:=by
 unfold room;rw [(begun_wit s n ws).2.1]
theorem done_parts {n' : Int} {B:List FrameD} {s s1:Wl} {t t1:DiskD} (h:Done s t s1 t1):Bud s t→∀ {s2 t2},Done (wit s1 n' B) t1 s2 t2→Done (wit s n' (s.ws++B)) t s2 t2:=by
 induction h with
 |nil e =>
  intro hb s2 t2 h2
  rw [e];exact h2
 | @step s s' t t' hne d ih =>
  intro hb s2 t2 h2
  have hr:=hb.r;have hp:=hb.p
  have hwne:s.ws++B≠[]:=fun e=>hne (List.append_eq_nil_iff.1 e).1
  have hpos:=ws_pos hne
  have hst:StepIs s (begun s).g (begun s).c:=⟨rfl,rfl⟩
  have hrng:=step_rng hr hst
  have hf:=right_facts hr
  have hrm:room s=min s.ws.length (8 - (begun s).c).toNat:=room_eq hr hst
  have hlap:(s.ws++B).length=s.ws.length+B.length:=List.length_append
  have hrm2:room (wit s n' (s.ws++B))=min (s.ws.length+B.length) (8 - (begun s).c).toNat:=by rw [room_wit,hlap]
  have hse:stepW s=⟨s.e,s.n,s.u+(room s:Int),(begun s).g,(begun s).c+(room s:Int),s.ws.drop (room s)⟩:=step_wit (s:=s) (n:=s.n) (ws:=s.ws) (r:=room s) rfl
  have hbw:=(bud_write hb hne).2
  have hpl:=hbw.p
  refine Done.step hwne ?_
  by_cases hcase:(8 - (begun s).c).toNat≤s.ws.length
  ·have hr2:room (wit s n' (s.ws++B))=room s:=by rw [hrm2,hrm];omega
   have hle:=room_le s
   have e1:stepW (wit s n' (s.ws++B))=wit (stepW s) n' ((stepW s).ws++B):=by
    rw [step_wit hr2,hse,List.drop_append_of_le_length hle]
   have e2:(s.ws++B).take (room s)=s.ws.take (room s):=List.take_append_of_le_length hle
   have:=ih hbw h2
   rw [e1,hr2]
   show Done _ (addD t (nameOf (stepW s).g) (scan.put ((s.ws++B).take (room s)))) s2 t2
   rw [e2]
   exact this
  ·have hrA:room s=s.ws.length:=by rw [hrm];omega
   have hnil:(stepW s).ws=[]:=by rw [step_ws,hrA,List.drop_length]
   obtain ⟨rfl,rfl⟩:=d.uniq (.nil hnil)
   have htk:s.ws.take (room s)=s.ws:=by rw [hrA,List.take_length]
   rw [htk] at h2 hpl
   have hc1:(begun s).c+(room s:Int)≠8:=by omega
   have hg1:(begun s).g≠0:=by omega
   cases B with
   |nil =>
    have hr2:room (wit s n' (s.ws++[]))=room s:=by rw [hrm2,hrm];simp
    have e1:stepW (wit s n' (s.ws++[]))=wit (stepW s) n' []:=by
     rw [step_wit hr2,hse,List.append_nil,hrA,List.drop_length]
    rw [e1,hr2,List.append_nil]
    show Done _ (addD t (nameOf (stepW s).g) (scan.put (s.ws.take (room s)))) s2 t2
    rw [htk]
    exact h2
   |cons b B =>
    cases h2 with
    |nil e=>exact absurd e (by simp)
    |step _ h2 =>
     have hbg:begun (wit (stepW s) n' (b :: B))=wit (stepW s) n' (b :: B):=by
      unfold begun
      rw [if_neg]
      rw [hse]
      show ¬ ((begun s).g=0∨(begun s).c+(room s:Int)=8)
      omega
     have hC:(begun (stepW s)).c=(begun s).c+(room s:Int)∧(begun (stepW s)).g=(begun s).g:=by
      obtain ⟨h1,h2,_⟩:=begun_wit (stepW s) n' (b :: B)
      rw [← h1,← h2,hbg,hse]
      exact ⟨rfl,rfl⟩
     obtain ⟨q,hq'⟩:∃ q,room (wit (stepW s) n' (b :: B))=q:=⟨_,rfl⟩
     have hq2:q=min (b :: B).length (8 - ((begun s).c+(room s:Int))).toNat:=by rw [← hq',room_wit,hC.1]
     have hr2:room (wit s n' (s.ws++b :: B))=s.ws.length+q:=by rw [hrm2,hq2,hrA];omega
     have e1:stepW (wit s n' (s.ws++b :: B))=stepW (wit (stepW s) n' (b :: B)):=by
      rw [step_wit hr2,step_wit hq',hC.1,hC.2,hse]
      simp only [hrA,Wl.mk.injEq,true_and]
      refine ⟨by push_cast;omega,by push_cast;omega,?_⟩
      rw [List.drop_append,List.drop_eq_nil_of_le (by omega)]
      simp
     have e2:(s.ws++b :: B).take (s.ws.length+q)=s.ws++(b :: B).take q:=by
      rw [List.take_append,List.take_of_length_le (by omega)]
      simp
     have e3:(stepW (wit (stepW s) n' (b :: B))).g=(stepW s).g:=by
      rw [step_wit hq',hC.2,hse]
     rw [e1,hr2,e3]
     rw [hq',e3] at h2
     show Done _ (addD t (nameOf (stepW s).g) (scan.put ((s.ws++b :: B).take (s.ws.length+q)))) s2 t2
     rw [e2,scan.put_append,← add_add hp]
     exact h2
theorem segs_iff {t:DiskD} (hr:rightB t=true) {n:Int} : n ∈ segs t ↔ 0 < n∧∃ f ∈ t.files,numOf f.name=n:=by
 unfold segs
 rw [if_pos hr,List.mem_filter,List.mem_map]
 simp only [decide_eq_true_eq]
 constructor
 ·rintro ⟨⟨f,h1,h2⟩,h3⟩;exact ⟨h3,f,h1,h2⟩
 ·rintro ⟨h3,f,h1,h2⟩;exact ⟨⟨f,h1,h2⟩,h3⟩
theorem fits_iff {s:Wl} {t:DiskD} : fitsL s t=true ↔ right s=true∧rightB t=true∧(∀ x ∈ segs t,x≤s.u)∧(s.g=0∨((heldV t s.g).length:Int)=s.c * 72):=by
 unfold fitsL
 simp only [Bool.and_eq_true,Bool.or_eq_true,decide_eq_true_eq,Bool.not_eq_true',List.any_eq_false,Int.not_lt]
 constructor
 ·rintro ⟨⟨h1,h2⟩,h3,h4⟩;exact ⟨h1,h2,h3,h4⟩
 ·rintro ⟨h1,h2,h3,h4⟩;exact ⟨⟨h1,h2⟩,h3,h4⟩
theorem held_look {t:DiskD} {g:Int} (hg:1≤g∧g≤1000000000):heldV t g=(oldOf (nameOf g) t.files).data:=by
 unfold heldV oldOf nameV
 rw [if_pos hg]
 cases disk.look (nameOf g) t.files<;>rfl
theorem fits_add {s:Wl} {t:DiskD} (hf:fitsL s t=true) (hb:Bud s t) (hne:s.ws≠[]):fitsL (stepW s) (addD t (nameOf (stepW s).g) (scan.put (s.ws.take (room s))))=true:=by
 obtain ⟨h1,h2,h3,h4⟩:=fits_iff.1 hf
 have hst:StepIs s (begun s).g (begun s).c:=⟨rfl,rfl⟩
 have hrng:=step_rng h1 hst;have hfa:=right_facts h1;have hpos:=room_pos h1 hne;have hwp:=ws_pos hne;have hle:=room_le s
 have hse:stepW s=⟨s.e,s.n,s.u+(room s:Int),(begun s).g,(begun s).c+(room s:Int),s.ws.drop (room s)⟩:=step_wit (s:=s) (n:=s.n) (ws:=s.ws) (r:=room s) rfl
 have hb':=(bud_write hb hne).2
 have hg1:1≤(begun s).g∧(begun s).g≤1000000000:=by omega
 have hgu:(begun s).g=s.u+1 - (begun s).c:=by
  unfold begun
  split
  ·simp
  ·rename_i hq;omega
 have hgs:(stepW s).g=(begun s).g:=by rw [hse]
 refine fits_iff.2 ⟨(step_right h1 hne).1,hb'.p.1,fun x hx=>?_,.inr ?_⟩
 ·obtain ⟨hx0,f,hf1,rfl⟩:=(segs_iff hb'.p.1).1 hx
  rw [hse]
  show numOf f.name≤s.u+(room s:Int)
  rcases (mem_add hb.p).1 hf1 with rfl | ⟨hf2,_⟩
  ·show numOf (nameOf (stepW s).g)≤_
   rw [hgs,numOf_name (by omega) (by omega)]
   omega
  ·have:=h3 _ ((segs_iff h2).2 ⟨hx0,f,hf2,rfl⟩)
   omega
 ·rw [hgs,held_look hg1]
  show (((oldOf (nameOf (begun s).g) (addF t.files (nameOf (begun s).g) (scan.put (s.ws.take (room s))))).data.length:Nat):Int)=(stepW s).c * 72
  rw [old_add hb.p]
  show ((((oldOf (nameOf (begun s).g) t.files).data++scan.put (s.ws.take (room s))).length:Nat):Int)=(stepW s).c * 72
  rw [List.length_append,put_len',hse]
  show (((oldOf (nameOf (begun s).g) t.files).data.length+72 * room s:Nat):Int)=((begun s).c+(room s:Int)) * 72
  have key:(((oldOf (nameOf (begun s).g) t.files).data.length:Nat):Int)=(begun s).c * 72:=by
   by_cases hq:s.g=0∨s.c=8
   ·have e1:(begun s).g=s.u+1∧(begun s).c=0:=by unfold begun;rw [if_pos hq];exact ⟨rfl,rfl⟩
    rw [e1.2]
    rcases old_cases (nameOf (begun s).g) t.files with ⟨_,e⟩ | ⟨f,e,_,hm,hn⟩
    ·rw [e];rfl
    ·have:=h3 (begun s).g ((segs_iff h2).2 ⟨by omega,f,hm,by rw [hn,numOf_name (by omega) (by omega)]⟩)
     omega
   ·have e1:begun s=s:=by unfold begun;rw [if_neg hq]
    rw [e1]
    rw [e1] at hg1
    rw [← held_look hg1]
    rcases h4 with h4 | h4
    ·exact absurd (.inl h4) hq
    ·exact h4
  push_cast
  omega
theorem last_all:∀ (l:List FrameD) (e:Int),(∀ f ∈ l,f.e=e)→scan.last l e=e
 | [],_,_=>rfl
 |f :: l,e,h=>by rw [scan.last_cons,h f (by simp)];exact last_all l e (fun g hg=>h g (by simp [hg]))
theorem put_right {s:Wl} {k b0 b1 b2 b3 b4 b5:Int} (hr:right s=true) (h:¬ (k < 1∨6 < k)∧¬ 1000000000 < s.n∧¬ 32≤s.ws.length):right (wit s (s.n+1) (s.ws++[newF s k b0 b1 b2 b3 b4 b5]))=true:=by
 have hf:=right_facts hr
 have hr0:=hr
 rw [right_split] at hr
 unfold waitsL at hr
 simp only [Bool.and_eq_true,decide_eq_true_eq,Bool.not_eq_true'] at hr
 obtain ⟨⟨_,⟨_,hrow⟩,hany⟩,hseg⟩:=hr
 have hall:∀ f ∈ s.ws,f.e=s.e:=fun f hf=>by
  have:=(List.any_eq_false.1 hany) f hf
  simpa using this
 refine right_yes (by simp only;omega) (waits_yes ?_ ?_ ?_) hseg
 ·simp only [List.length_append,List.length_singleton];omega
 ·show scan.row (s.ws++[newF s k b0 b1 b2 b3 b4 b5]) (s.u+1) s.e=true
  rw [scan.row_append,hrow,last_all _ _ hall]
  simp only [Bool.true_and]
  refine (scan.row_cons _ _ _ _).2 ⟨?_,?_,Int.le_refl _,rfl⟩
  ·unfold frame.right newF
   exact decide_eq_true (by simp only;omega)
  ·show s.n=_;omega
 ·show (s.ws++[newF s k b0 b1 b2 b3 b4 b5]).any _=false
  rw [List.any_append,hany]
  show (!decide (s.e=s.e) || false)=false
  simp
theorem put_fits {s:Wl} {t:DiskD} {k b0 b1 b2 b3 b4 b5:Int} (hf:fitsL s t=true) (h:¬ (k < 1∨6 < k)∧¬ 1000000000 < s.n∧¬ 32≤s.ws.length):fitsL (wit s (s.n+1) (s.ws++[newF s k b0 b1 b2 b3 b4 b5])) t=true:=by
 obtain ⟨h1,h2,h3,h4⟩:=fits_iff.1 hf
 exact fits_iff.2 ⟨put_right h1 h,h2,h3,h4⟩
theorem done_used {s s' : Wl} {t t' : DiskD} (h:Done s t s' t'):Bud s t→used t'.files≤used t.files+72 * s.ws.length∧t'.files.length≤t.files.length+s.ws.length∧t'.room=t.room:=by
 induction h with
 |nil e=>intro _;exact ⟨by omega,by omega,rfl⟩
 | @step s s' t t' hne d ih =>
  intro hb
  obtain ⟨h1,h2,h3⟩:=ih (bud_write hb hne).2
  have hu:=used_add hb.p (nameOf (stepW s).g) (scan.put (s.ws.take (room s)))
  have hw:(stepW s).ws.length=s.ws.length - room s:=by rw [step_ws,List.length_drop]
  have hl:=put_len' s;have hle:=room_le s;have hp:=room_pos hb.r hne
  have hu1:used (addD t (nameOf (stepW s).g) (scan.put (s.ws.take (room s)))).files=used t.files+(scan.put (s.ws.take (room s))).length:=hu.1
  have hu2:(addD t (nameOf (stepW s).g) (scan.put (s.ws.take (room s)))).files.length≤t.files.length+1:=hu.2.1
  rw [hw] at h1 h2
  exact ⟨by omega,by omega,h3⟩
theorem done_more {s C:Wl} {t E:DiskD} {n' : Int} {B:List FrameD} (d:Done s t C E) (hb:Bud s t) (hb2:Bud (wit s n' (s.ws++B)) t) (hC:right (wit C n' B)=true):∃ s2 t2,Done (wit C n' B) E s2 t2:=by
 obtain ⟨s1,t1,a1,a2,a3,a4,a5,a6⟩:=commit_done s.ws.length s t hb (Nat.le_refl _)
 obtain ⟨rfl,rfl⟩:=a1.uniq d
 have hu:=done_used d hb
 have h1:=hb2.u;have h2:=hb2.l
 have hl:(s.ws++B).length=s.ws.length+B.length:=List.length_append
 have hwl:(wit s n' (s.ws++B)).ws.length=s.ws.length+B.length:=hl
 rw [hwl] at h1 h2
 have hbC:Bud (wit s1 n' B) t1:=⟨a3.p,hC,by show ((used t1.files+72 * B.length:Nat):Int)≤t1.room;rw [hu.2.2];omega,by show t1.files.length+B.length≤64;omega⟩
 obtain ⟨s2,t2,b1,_⟩:=commit_done B.length _ _ hbC (Nat.le_refl _)
 exact ⟨s2,t2,b1⟩
structure Bd (i:Nat) (s:Wl) (t:DiskD):Prop where
 p:Plain t
 f:fitsL s t=true
 m:t.room=65536
 u:used t.files+72 * s.ws.length≤72 * i
 l:t.files.length+s.ws.length≤i
theorem Bd.bud {i:Nat} {s:Wl} {t:DiskD} (h:Bd i s t) (hi:i≤32):Bud s t:=⟨h.p,right_of_fits h.f,by have:=h.u;have:=h.m;omega,by have:=h.l;omega⟩
structure PartsI (D0:DiskD) (i:Nat) (one two:Wl) (x:DiskD):Prop where
 h1:Bd i one D0
 h2:Bd i two x
 n:one.n=two.n
 e:one.e=two.e
 ni:one.n=(i:Int)+1
 i:i≤32
 d:∃ C E,Done one D0 C E∧Done two x C E
section
variable {D0 x:DiskD} {i:Nat} {one two:Wl} {k b0 b1 b2 b3 b4 b5:Int}
theorem bd_put {s:Wl} {t:DiskD} (h:Bd i s t) (hk:¬ (k < 1∨6 < k)) (hn:s.n=(i:Int)+1) (hi:i < 32):putW s k b0 b1 b2 b3 b4 b5=(wit s (s.n+1) (s.ws++[newF s k b0 b1 b2 b3 b4 b5]),0)∧Bd (i+1) (wit s (s.n+1) (s.ws++[newF s k b0 b1 b2 b3 b4 b5])) t:=by
 have hl:=h.l;have hu:=h.u
 have hq:¬ (k < 1∨6 < k)∧¬ 1000000000 < s.n∧¬ 32≤s.ws.length:=⟨hk,by omega,by omega⟩
 refine ⟨put_yes (right_of_fits h.f) hq,h.p,put_fits h.f hq,h.m,?_,?_⟩
 ·simp only [List.length_append,List.length_singleton];omega
 ·simp only [List.length_append,List.length_singleton];omega
theorem PartsI.put (h:PartsI D0 i one two x) (hk:¬ (k < 1∨6 < k)) (hi:i < 32) :
  (putW one k b0 b1 b2 b3 b4 b5).2=0∧(putW two k b0 b1 b2 b3 b4 b5).2=0∧PartsI D0 (i+1) (putW one k b0 b1 b2 b3 b4 b5).1 (putW two k b0 b1 b2 b3 b4 b5).1 x:=by
 obtain ⟨e1,g1⟩:=bd_put (b0:=b0) (b1:=b1) (b2:=b2) (b3:=b3) (b4:=b4) (b5:=b5) h.h1 hk h.ni hi
 obtain ⟨e2,g2⟩:=bd_put (b0:=b0) (b1:=b1) (b2:=b2) (b3:=b3) (b4:=b4) (b5:=b5) h.h2 hk (h.n▸h.ni) hi
 rw [e1,e2]
 refine ⟨rfl,rfl,g1,g2,by show one.n+1=two.n+1;rw [h.n],h.e,by show one.n+1=_;have:=h.ni;push_cast;omega,hi,?_⟩
 obtain ⟨C,E,d1,d2⟩:=h.d
 have hf:newF one k b0 b1 b2 b3 b4 b5=newF two k b0 b1 b2 b3 b4 b5:=by unfold newF;rw [h.e,h.n]
 obtain ⟨s2,t2,hd,_⟩:=commit_done 33 _ _ (g1.bud hi) (by have:=right_facts (right_of_fits g1.f);omega)
 obtain ⟨s1,t1,a1',a2',a3',a4',a5',a6'⟩:=commit_done 33 one D0 (h.h1.bud h.i) (by have:=right_facts (right_of_fits h.h1.f);omega)
 obtain ⟨rfl,rfl⟩:=a1'.uniq d1
 have hCr:right (wit s1 (one.n+1) [newF one k b0 b1 b2 b3 b4 b5])=true:=by
  have hn:one.n≤1000000000:=by have:=h.ni;omega
  have:=put_right (b0:=b0) (b1:=b1) (b2:=b2) (b3:=b3) (b4:=b4) (b5:=b5) a3'.r ⟨hk,by rw [a5'];omega,by rw [a4'];simp⟩
  rw [a4',a5'] at this
  have e:newF s1 k b0 b1 b2 b3 b4 b5=newF one k b0 b1 b2 b3 b4 b5:=by unfold newF;rw [a5',a6']
  rw [e] at this
  exact this
 have hC:∃ s2 t2,Done (wit s1 (one.n+1) [newF one k b0 b1 b2 b3 b4 b5]) t1 s2 t2:=done_more d1 (h.h1.bud h.i) (g1.bud hi) hCr
 obtain ⟨s3,t3,h3⟩:=hC
 have a1:=done_parts d1 (h.h1.bud h.i) h3
 have h3' : Done (wit s1 (two.n+1) [newF two k b0 b1 b2 b3 b4 b5]) t1 s3 t3:=by rw [← hf,← h.n];exact h3
 have a2:=done_parts d2 (h.h2.bud h.i) h3'
 exact ⟨s3,t3,a1,a2⟩
end
end Go.Proofs.YtalhdalinpdanaaGreatDoor.wal
end
