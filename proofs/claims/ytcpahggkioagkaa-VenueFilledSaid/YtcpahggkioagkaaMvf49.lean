/-
  VenDeed
-/
import Derived.Test.YtcpahggkioagkaaMvf37
set_option linter.unusedVariables false
set_option linter.unusedSimpArgs false
namespace Go.Proofs.Ytcpahggkioagkaa.venue
open Go.RowKit Go.Proofs.Ytcpahggkioagkaa
open Go.Proofs.Ytcpahggkioagkaa.order (Or oz open_)
open Go.Proofs.Ytcpahggkioagkaa.rec (Rc)
open Go.Proofs.Ytcpahggkioagkaa.book (v_oright v_ofnote v_take v_begin v_open v_change l_rec nt_fine)
set_option maxRecDepth 20000
structure Dd where
 (k o q p:Nat) (a:Bool)
def Dd.ok (d:Dd):Prop:=d.k < 256∧d.o < 256∧d.q < 256∧d.p < 256
def ddc (d:Dd):Array Value:=#[.int .u8 (d.k:Int),.int .u8 (d.o:Int),.int .u8 (d.q:Int),.int .u8 (d.p:Int),.bool d.a]
def deedM (d:Dd):Mg :=
 if d.p % 3=1 then ⟨((1+d.p % 3:Nat):Int),((d.o % 8+1:Nat):Int),0,0,2,((d.q+1:Nat):Int),3,((d.p / 3+1:Nat):Int),0⟩
 else if d.p % 3=2 then ⟨((1+d.p % 3:Nat):Int),((d.o % 8+1:Nat):Int),0,0,2,0,0,0,0⟩
 else ⟨((1+d.p % 3:Nat):Int),((d.o % 8+1:Nat):Int),0,0,2,((d.q+1:Nat):Int),3,0,0⟩
def deedV (s:Vn) (d:Dd):Vn :=
 if d.k % 4=0 then (takeV s d.a).1 else if d.k % 4=1 then (fillV s ((d.o % 8+1:Nat):Int) ((d.q+1:Nat):Int)).1 else if d.k % 4=2 then (outV s ((d.o % 8+1:Nat):Int)).1 else (sendV s (deedM d)).1
section
variable {s:Vn} {d:Dd} {m:Mg} {b:Bool}
theorem dv_0 (h:d.k % 4=0) (hb:d.a=b):deedV s d=(takeV s b).1:=by subst hb;exact if_pos h
theorem dv_1 (h:d.k % 4=1):deedV s d=(fillV s ((d.o % 8+1:Nat):Int) ((d.q+1:Nat):Int)).1:=by unfold deedV;rw [if_neg (by omega),if_pos h]
theorem dv_2 (h:d.k % 4=2):deedV s d=(outV s ((d.o % 8+1:Nat):Int)).1:=by unfold deedV;rw [if_neg (by omega),if_neg (by omega),if_pos h]
theorem dv_3 (h:d.k % 4=3) (hm:deedM d=m):deedV s d=(sendV s m).1:=by unfold deedV;rw [if_neg (by omega),if_neg (by omega),if_neg (by omega),hm]
theorem dm_1 (h:d.p % 3=0):deedM d=⟨((1+d.p % 3:Nat):Int),((d.o % 8+1:Nat):Int),0,0,2,((d.q+1:Nat):Int),3,0,0⟩:=by unfold deedM;rw [if_neg (by omega),if_neg (by omega)]
theorem dm_2 (h:d.p % 3=1):deedM d=⟨((1+d.p % 3:Nat):Int),((d.o % 8+1:Nat):Int),0,0,2,((d.q+1:Nat):Int),3,((d.p / 3+1:Nat):Int),0⟩:=if_pos h
theorem dm_3 (h:d.p % 3=2):deedM d=⟨((1+d.p % 3:Nat):Int),((d.o % 8+1:Nat):Int),0,0,2,0,0,0,0⟩:=by unfold deedM;rw [if_neg (by omega),if_pos h]
theorem deed_fine (h:d.ok) {q p v:Int} (hq:0≤q) (hq2:q≤256) (hp:0≤p∧p≤256) (hv:0≤v∧v≤256):(⟨((1+d.p % 3:Nat):Int),((d.o % 8+1:Nat):Int),0,0,2,q,p,v,0⟩:Mg).fine:=by
 refine ⟨?_,?_,?_,?_,?_,?_,?_,?_,?_⟩
 ·show frame.inR ((1+d.p % 3:Nat):Int);unfold frame.inR;omega
 ·show frame.inR ((d.o % 8+1:Nat):Int);unfold frame.inR;omega
 ·show frame.inR 0;unfold frame.inR;decide
 ·show frame.inR 0;unfold frame.inR;decide
 ·show frame.inR 2;unfold frame.inR;decide
 ·show frame.inR q;unfold frame.inR;omega
 ·show frame.inR p;unfold frame.inR;omega
 ·show frame.inR v;unfold frame.inR;omega
 ·show frame.inR 0;unfold frame.inR;decide
end
section
variable {P:Program} {w0:World} {D:List Fact} {T:TypeId}
theorem rem_k {k:IntKind} {a b:Nat} (h:0 < b) (ox oy:Operand):Yields0 P w0 D (do eqGuard .rem T ox oy (.int k (a:Int)) (.int k (b:Int));Go.binOp .rem T (.int k (a:Int)) (.int k (b:Int))) (.int k ((a % b:Nat):Int)):=fun w _ _=>by
 have hb:¬ (b:Int)=0:=by omega
 have e:Int.tmod (a:Int) (b:Int)=((a % b:Nat):Int):=by rw [Int.ofNat_tmod]
 have e1:eqGuard .rem T ox oy (.int k (a:Int)) (.int k (b:Int))=pure ():=rfl
 have e2:Go.binOp .rem T (.int k (a:Int)) (.int k (b:Int))=Op.intDiv .rem k (a:Int) (b:Int):=by simp [Go.binOp]
 rw [e1,Sem.run_bind,Sem.run_pure,Result.andThen_ok,e2]
 unfold Op.intDiv
 rw [if_neg hb]
 simp only [e]
 rfl
theorem quo_3 {a:Nat} (h:a≤1000000) (ox oy:Operand):Yields0 P w0 D (do eqGuard .quo T ox oy (.int .i64 (a:Int)) (.int .i64 3);Go.binOp .quo T (.int .i64 (a:Int)) (.int .i64 3)) (.int .i64 ((a / 3:Nat):Int)):=fun w _ _=>by
 have hb:¬ (3:Int)=0:=by decide
 have e:Int.tdiv (a:Int) 3=((a / 3:Nat):Int):=by rw [show (3:Int)=((3:Nat):Int) from rfl,Int.ofNat_tdiv]
 have e1:eqGuard .quo T ox oy (.int .i64 (a:Int)) (.int .i64 3)=pure ():=rfl
 have e2:Go.binOp .quo T (.int .i64 (a:Int)) (.int .i64 3)=Op.intDiv .quo .i64 (a:Int) 3:=by simp [Go.binOp]
 rw [e1,Sem.run_bind,Sem.run_pure,Result.andThen_ok,e2]
 unfold Op.intDiv
 rw [if_neg hb]
 simp only [e]
 have hw:IntKind.i64.wrap ((a / 3:Nat):Int)=((a / 3:Nat):Int):=by rw [IntKind.wrap_i64];omega
 first | (rw [hw];rfl) | (simp only [hw];rfl) | rfl
theorem conv_n {src dst:TypeId} {ds:TypeDesc} {n:Nat} {kk:IntKind} (hs:P.underlying src=some ds) (hd:P.underlying dst=some (.int .i64)) (h:n < 256) :
  Yields0 P w0 D (convert src dst (.int kk (n:Int))) (.int .i64 (n:Int)):=fun w _ _=>by
 have hk' : P.intKind dst = .i64:=by simp [Program.intKind,hd]
 rw [run_convert_int w src dst kk _ (by rw [hs];rfl) (by rw [hk'];exact hd),hk',wrap_is (x:=(n:Int)) (y:=(n:Int)) rfl (by omega) (by omega)]
theorem q_ven {S:Nat→Prop} {v:Vv} {r s:Vn} (hr:r=s) (hd:∀ w',Below w0.heap.size w0 w'→All D w'→(∀ f ∈ D,∀ k,f.S k→w0.heap.size≤k∧k < w'.heap.size)→InV w' (Nw S w0 w') v s) :
  ∃ x:Vv,(.agg (vc v s):Value) = .agg (vc x r)∧Concl w0 D (fun w'=>InV w' (Nw S w0 w') x r):=by
 subst hr
 exact ⟨v,rfl,fun w' hb ha hy=>hd w' hb ha hy⟩
end
theorem v_deed (v:Vv) (s:Vn) (d:Dd) (S:Nat→Prop)  (w:World) (h0:InV w S v s) (hS:∀ k,S k→k < w.heap.size) (hdd:d.ok):Calls Try.prog 23 #[.agg (vc v s),.agg (ddc d)] w fun e w' => ∃ x:Vv,e = .returned (.agg (vc x (deedV s d)))∧Below w.heap.size w w'∧(fun w'=>InV w' (Nw S w w') x (deedV s d)) w' :=
 have h:=h0.all hS
 have hlen:=h.len
 have hd4:=hdd.1
 have hdo:=hdd.2.1
 have hdq:=hdd.2.2.1
 have hdp:=hdd.2.2.2
 calls_q (fn:=Try.f23) (r:=fun (x:Vv)=>.agg (vc x (deedV s d))) (Q:=fun (x:Vv)=>fun w'=>InV w' (Nw S w w') x (deedV s d)) (t:=let k6:=((d.o:Nat) % 8:Nat);let k0:=((k6+1:Nat):Int);let k1:=((1+((d.p:Nat) % 3:Nat):Nat):Int);let k2:=(((d.q:Nat)+1:Nat):Int);let k7:=((d.p:Nat) / 3:Nat);let k3:=(⟨k1,k0,0,0,2,k2,3,((k7+1:Nat):Int),0⟩:Mg);let k4:=(⟨k1,k0,0,0,2,k2,3,0,0⟩:Mg);let k5:=(⟨k1,k0,0,0,2,0,0,0,0⟩:Mg);let k8:=takeV s false;let k9:=fillV s k0 k2; .x (.int .u8 (k6:Int)) (.x (.int .i64 (k6:Int)) (.e (.int .i64 k0) (.x (.int .u8 (((d.k:Nat) % 4:Nat):Int)) (.s (.s (.cm (Dat (fun w S v=>InV w S v ((takeV s true).1)) S w) (fun x=>.tuple #[.agg (vc x.1.2.2 ((takeV s true).1)),.int .i64 ((takeV s true).2)]) (fun x=>[poolF x.1.1 x.1.2.1]) (fun x3=>.z)) (.cm (Dat (fun w S v=>InV w S v (k8.1)) S w) (fun x=>.tuple #[.agg (vc x.1.2.2 (k8.1)),.int .i64 (k8.2)]) (fun x=>[poolF x.1.1 x.1.2.1]) (fun x4=>.z))) (.s (.x (.int .i64 ((d.q:Nat):Int)) (.e (.int .i64 k2) (.cm (Dat (fun w S v=>InV w S v (k9.1)) S w) (fun x=>.tuple #[.agg (vc x.1.2.2 (k9.1)),.int .i64 (k9.2)]) (fun x=>[poolF x.1.1 x.1.2.1]) (fun x6=>.z)))) (.s (.cm (Dat (fun w S v=>InV w S v ((outV s k0).1)) S w) (fun x=>.tuple #[.agg (vc x.1.2.2 ((outV s k0).1)),.int .i64 ((outV s k0).2)]) (fun x=>[poolF x.1.1 x.1.2.1]) (fun x8=>.z)) (.x (.int .i64 ((d.p:Nat):Int)) (.x (.int .i64 (((d.p:Nat) % 3:Nat):Int)) (.e (.int .i64 k1) (.x (.int .i64 ((d.q:Nat):Int)) (.e (.int .i64 k2) (.s (.x (.int .i64 ((d.p:Nat):Int)) (.x (.int .i64 (k7:Int)) (.e (.int .i64 ((k7+1:Nat):Int)) (.m false (.cm (Dat (fun w S v=>InV w S v ((sendV s k3).1)) S w) (fun x=>.tuple #[.agg (vc x.1.2.2 ((sendV s k3).1)),.int .i64 ((sendV s k3).2)]) (fun x=>[poolF x.1.1 x.1.2.1]) (fun x10=>.z)))))) (.s (.cm (Dat (fun w S v=>InV w S v ((sendV s k5).1)) S w) (fun x=>.tuple #[.agg (vc x.1.2.2 ((sendV s k5).1)),.int .i64 ((sendV s k5).2)]) (fun x=>[poolF x.1.1 x.1.2.1]) (fun x12=>.z)) (.cm (Dat (fun w S v=>InV w S v ((sendV s k4).1)) S w) (fun x=>.tuple #[.agg (vc x.1.2.2 ((sendV s k4).1)),.int .i64 ((sendV s k4).2)]) (fun x=>[poolF x.1.1 x.1.2.1]) (fun x13=>.z)))))))))))))))) (X :=
 let k0:=((((d.o:Nat) % 8:Nat)+1:Nat):Int);let k15:=((d.p:Nat) % 3:Nat);let k1:=((1+k15:Nat):Int);let k2:=(((d.q:Nat)+1:Nat):Int);let k10:=((d.p:Nat) / 3:Nat);let k16:=((k10+1:Nat):Int);let k3:=(⟨k1,k0,0,0,2,k2,3,k16,0⟩:Mg);let k4:=(((d.k:Nat) % 4:Nat):Int);let k5:=(⟨k1,k0,0,0,2,k2,3,0,0⟩:Mg);let k6:=(⟨k1,k0,0,0,2,0,0,0,0⟩:Mg);let k21:=((d.p:Nat):Int);let k7:Value:=.int .i64 k21;let k8:=(((d.o:Nat) % 8:Nat):Int);let k9:=((d.q:Nat):Int);let k11:=takeV s false;let k12:=fillV s k0 k2;let k13:=(takeV s true).1;let k14:=(.int .i64 (IntKind.i64.wrap (k9+1)):Value);let k17:=(sendV s k3).1;let k18:=(sendV s k6).1;let k19:=(sendV s k5).1;let k20:=(outV s k0).1;let k22:=decide (k1=3);let k23:=convert 5 2 (.int .u8 k9); ∀ g0:Nat,∀ g1:Nat,∀ g2:Nat,Yields0 Try.prog w [] (do eqGuard BinOp.rem 5 (.tmp 8) (.const (.int .u8 8)) (.int .u8 ((d.o:Nat):Int)) (.int .u8 8);Go.binOp BinOp.rem 5 (.int .u8 ((d.o:Nat):Int)) (.int .u8 8)) (.int .u8 k8)∧Yields0 Try.prog w [] (convert 5 2 (.int .u8 k8)) (.int .i64 k8)∧(.int .i64 (IntKind.i64.wrap (k8+1)):Value) = .int .i64 k0∧Yields0 Try.prog w [] (do eqGuard BinOp.rem 5 (.tmp 13) (.const (.int .u8 4)) (.int .u8 ((d.k:Nat):Int)) (.int .u8 4);Go.binOp BinOp.rem 5 (.int .u8 ((d.k:Nat):Int)) (.int .u8 4)) (.int .u8 k4)∧((decide (k4=0))=true→(d.a=true→GivesM Try.prog w [] 17 #[.agg (vc v s),.bool true] (Dat (fun w S v=>InV w S v k13) S w) (fun x=>.tuple #[.agg (vc x.1.2.2 k13),.int .i64 ((takeV s true).2)]) (fun x=>[poolF x.1.1 x.1.2.1])∧∀ x3:Dat (fun w S v=>InV w S v k13) S w,∃ x:Vv,(.agg (vc x3.1.2.2 k13):Value) = .agg (vc x (deedV s d))∧Concl w [poolF x3.1.1 x3.1.2.1] (fun w'=>InV w' (Nw S w w') x (deedV s d)))∧(d.a=false→GivesM Try.prog w [] 17 #[.agg (vc v s),.bool false] (Dat (fun w S v=>InV w S v (k11.1)) S w) (fun x=>.tuple #[.agg (vc x.1.2.2 (k11.1)),.int .i64 (k11.2)]) (fun x=>[poolF x.1.1 x.1.2.1])∧∀ x4:Dat (fun w S v=>InV w S v (k11.1)) S w,∃ x:Vv,(.agg (vc x4.1.2.2 (k11.1)):Value) = .agg (vc x (deedV s d))∧Concl w [poolF x4.1.1 x4.1.2.1] (fun w'=>InV w' (Nw S w w') x (deedV s d))))∧((decide (k4=0))=false→((decide (k4=1))=true→Yields0 Try.prog w [] k23 (.int .i64 k9)∧k14 = .int .i64 k2∧GivesM Try.prog w [] 19 #[.agg (vc v s),.int .i64 k0,.int .i64 k2] (Dat (fun w S v=>InV w S v (k12.1)) S w) (fun x=>.tuple #[.agg (vc x.1.2.2 (k12.1)),.int .i64 (k12.2)]) (fun x=>[poolF x.1.1 x.1.2.1])∧∀ x6:Dat (fun w S v=>InV w S v (k12.1)) S w,∃ x:Vv,(.agg (vc x6.1.2.2 (k12.1)):Value) = .agg (vc x (deedV s d))∧Concl w [poolF x6.1.1 x6.1.2.1] (fun w'=>InV w' (Nw S w w') x (deedV s d)))∧((decide (k4=1))=false→((decide (k4=2))=true→GivesM Try.prog w [] 21 #[.agg (vc v s),.int .i64 k0] (Dat (fun w S v=>InV w S v k20) S w) (fun x=>.tuple #[.agg (vc x.1.2.2 k20),.int .i64 ((outV s k0).2)]) (fun x=>[poolF x.1.1 x.1.2.1])∧∀ x8:Dat (fun w S v=>InV w S v k20) S w,∃ x:Vv,(.agg (vc x8.1.2.2 k20):Value) = .agg (vc x (deedV s d))∧Concl w [poolF x8.1.1 x8.1.2.1] (fun w'=>InV w' (Nw S w w') x (deedV s d)))∧((decide (k4=2))=false→Yields0 Try.prog w [] (convert 5 3 (.int .u8 k21)) k7∧Yields0 Try.prog w [] (do eqGuard BinOp.rem 3 (.tmp 17) (.const (.int .i64 3)) k7 (.int .i64 3);Go.binOp BinOp.rem 3 k7 (.int .i64 3)) (.int .i64 (k15:Int))∧(.int .i64 (IntKind.i64.wrap (1+(k15:Int))):Value) = .int .i64 k1∧Yields0 Try.prog w [] k23 (.int .i64 k9)∧k14 = .int .i64 k2∧∀ g3:Nat,((decide (k1=2))=true→Yields0 Try.prog w [] (convert 5 2 (.int .u8 k21)) k7∧Yields0 Try.prog w [] (do eqGuard BinOp.quo 2 (.tmp 31) (.const (.int .i64 3)) k7 (.int .i64 3);Go.binOp BinOp.quo 2 k7 (.int .i64 3)) (.int .i64 (k10:Int))∧(.int .i64 (IntKind.i64.wrap ((k10:Int)+1)):Value) = .int .i64 k16∧k22=false∧GivesM Try.prog w [] 14 #[.agg (vc v s),.agg #[.int .i64 k1,.int .i64 k0,.int .i64 0,.int .i64 0,.int .i64 2,.int .i64 k2,.int .i64 3,.int .i64 k16,.int .i64 0]] (Dat (fun w S v=>InV w S v k17) S w) (fun x=>.tuple #[.agg (vc x.1.2.2 k17),.int .i64 ((sendV s k3).2)]) (fun x=>[poolF x.1.1 x.1.2.1])∧∀ x10:Dat (fun w S v=>InV w S v k17) S w,∃ x:Vv,(.agg (vc x10.1.2.2 k17):Value) = .agg (vc x (deedV s d))∧Concl w [poolF x10.1.1 x10.1.2.1] (fun w'=>InV w' (Nw S w w') x (deedV s d)))∧((decide (k1=2))=false→(k22=true→GivesM Try.prog w [] 14 #[.agg (vc v s),.agg #[.int .i64 k1,.int .i64 k0,.int .i64 0,.int .i64 0,.int .i64 2,.int .i64 0,.int .i64 0,.int .i64 0,.int .i64 0]] (Dat (fun w S v=>InV w S v k18) S w) (fun x=>.tuple #[.agg (vc x.1.2.2 k18),.int .i64 ((sendV s k6).2)]) (fun x=>[poolF x.1.1 x.1.2.1])∧∀ x12:Dat (fun w S v=>InV w S v k18) S w,∃ x:Vv,(.agg (vc x12.1.2.2 k18):Value) = .agg (vc x (deedV s d))∧Concl w [poolF x12.1.1 x12.1.2.1] (fun w'=>InV w' (Nw S w w') x (deedV s d)))∧(k22=false→GivesM Try.prog w [] 14 #[.agg (vc v s),.agg #[.int .i64 k1,.int .i64 k0,.int .i64 0,.int .i64 0,.int .i64 2,.int .i64 k2,.int .i64 3,.int .i64 0,.int .i64 0]] (Dat (fun w S v=>InV w S v k19) S w) (fun x=>.tuple #[.agg (vc x.1.2.2 k19),.int .i64 ((sendV s k5).2)]) (fun x=>[poolF x.1.1 x.1.2.1])∧∀ x13:Dat (fun w S v=>InV w S v k19) S w,∃ x:Vv,(.agg (vc x13.1.2.2 k19):Value) = .agg (vc x (deedV s d))∧Concl w [poolF x13.1.1 x13.1.2.1] (fun w'=>InV w' (Nw S w w') x (deedV s d)))))))) Try.func23 (by kernel_rfl)
 (fun g0=>fun g1=>fun g2=>⟨(rem_k (a:=(d.o:Nat)) (b:=8) (by decide) _ _),⟨(conv_n Try.underlying5 Try.underlying2 (n:=((d.o:Nat) % 8:Nat)) (by omega)),⟨wrap_is (by omega) (by omega) (by omega),⟨(rem_k (a:=(d.k:Nat)) (b:=4) (by decide) _ _),⟨fun h1=>have h1:(((d.k:Nat) % 4:Nat):Int)=0:=(by simpa using h1)
⟨fun h2=>⟨(g_take (r:=takeV s true) rfl (fixed_low hS) (fun w1 hw _=>(h0.keep (low_alike hS hw) (fun _ h=>h)))),fun x3=>(q_ven (dv_0 (by omega) h2) (fun w1 hb ha hy=>(dat_new (keeps_v ((takeV s true).1)) (fixed_low hS) x3 (i:=0) rfl hb ha hy new_base)))⟩,
 fun h2=>⟨(g_take (r:=takeV s false) rfl (fixed_low hS) (fun w1 hw _=>(h0.keep (low_alike hS hw) (fun _ h=>h)))),fun x4=>(q_ven (dv_0 (by omega) h2) (fun w1 hb ha hy=>(dat_new (keeps_v ((takeV s false).1)) (fixed_low hS) x4 (i:=0) rfl hb ha hy new_base)))⟩⟩,
 fun h1=>have h1:¬ (((d.k:Nat) % 4:Nat):Int)=0:=(by simpa using h1)
⟨fun h5=>have h5:(((d.k:Nat) % 4:Nat):Int)=1:=(by simpa using h5)
⟨(conv_n Try.underlying5 Try.underlying2 (n:=(d.q:Nat)) (by omega)),⟨wrap_is (by omega) (by omega) (by omega),⟨(g_fill (r:=fillV s ((((d.o:Nat) % 8:Nat)+1:Nat):Int) (((d.q:Nat)+1:Nat):Int)) rfl (fixed_low hS) (fun w1 hw _=>(h0.keep (low_alike hS hw) (fun _ h=>h))) (by unfold frame.inR;omega)),fun x6=>(q_ven (dv_1 (by omega)) (fun w1 hb ha hy=>(dat_new (keeps_v ((fillV s ((((d.o:Nat) % 8:Nat)+1:Nat):Int) (((d.q:Nat)+1:Nat):Int)).1)) (fixed_low hS) x6 (i:=0) rfl hb ha hy new_base)))⟩⟩⟩,
 fun h5=>have h5:¬ (((d.k:Nat) % 4:Nat):Int)=1:=(by simpa using h5)
⟨fun h7=>have h7:(((d.k:Nat) % 4:Nat):Int)=2:=(by simpa using h7)
⟨(g_out (r:=outV s ((((d.o:Nat) % 8:Nat)+1:Nat):Int)) rfl (fixed_low hS) (fun w1 hw _=>(h0.keep (low_alike hS hw) (fun _ h=>h)))),fun x8=>(q_ven (dv_2 (by omega)) (fun w1 hb ha hy=>(dat_new (keeps_v ((outV s ((((d.o:Nat) % 8:Nat)+1:Nat):Int)).1)) (fixed_low hS) x8 (i:=0) rfl hb ha hy new_base)))⟩,
 fun h7=>have h7:¬ (((d.k:Nat) % 4:Nat):Int)=2:=(by simpa using h7)
⟨(conv_n Try.underlying5 Try.underlying3 (n:=(d.p:Nat)) (by omega)),⟨(rem_k (a:=(d.p:Nat)) (b:=3) (by decide) _ _),⟨wrap_is (by omega) (by omega) (by omega),⟨(conv_n Try.underlying5 Try.underlying2 (n:=(d.q:Nat)) (by omega)),⟨wrap_is (by omega) (by omega) (by omega),fun g3=>⟨fun h9=>have h9:((1+((d.p:Nat) % 3:Nat):Nat):Int)=2:=(by simpa using h9)
⟨(conv_n Try.underlying5 Try.underlying2 (n:=(d.p:Nat)) (by omega)),⟨(quo_3 (a:=(d.p:Nat)) (by omega) _ _),⟨wrap_is (by omega) (by omega) (by omega),⟨by simp only [dq];omega,⟨(g_send (m:=(⟨((1+((d.p:Nat) % 3:Nat):Nat):Int),((((d.o:Nat) % 8:Nat)+1:Nat):Int),0,0,2,(((d.q:Nat)+1:Nat):Int),3,((((d.p:Nat) / 3:Nat)+1:Nat):Int),0⟩:Mg)) (r:=sendV s (⟨((1+((d.p:Nat) % 3:Nat):Nat):Int),((((d.o:Nat) % 8:Nat)+1:Nat):Int),0,0,2,(((d.q:Nat)+1:Nat):Int),3,((((d.p:Nat) / 3:Nat)+1:Nat):Int),0⟩:Mg)) rfl (fixed_low hS) (fun w1 hw _=>(h0.keep (low_alike hS hw) (fun _ h=>h))) (deed_fine hdd (by omega) (by omega) (by omega) (by omega))),fun x10=>(q_ven (dv_3 (by omega) (dm_2 (by omega))) (fun w1 hb ha hy=>(dat_new (keeps_v ((sendV s (⟨((1+((d.p:Nat) % 3:Nat):Nat):Int),((((d.o:Nat) % 8:Nat)+1:Nat):Int),0,0,2,(((d.q:Nat)+1:Nat):Int),3,((((d.p:Nat) / 3:Nat)+1:Nat):Int),0⟩:Mg)).1)) (fixed_low hS) x10 (i:=0) rfl hb ha hy new_base)))⟩⟩⟩⟩⟩,
 fun h9=>have h9:¬ ((1+((d.p:Nat) % 3:Nat):Nat):Int)=2:=(by simpa using h9)
⟨fun h11=>have h11:((1+((d.p:Nat) % 3:Nat):Nat):Int)=3:=(by simpa using h11)
⟨(g_send (m:=(⟨((1+((d.p:Nat) % 3:Nat):Nat):Int),((((d.o:Nat) % 8:Nat)+1:Nat):Int),0,0,2,0,0,0,0⟩:Mg)) (r:=sendV s (⟨((1+((d.p:Nat) % 3:Nat):Nat):Int),((((d.o:Nat) % 8:Nat)+1:Nat):Int),0,0,2,0,0,0,0⟩:Mg)) rfl (fixed_low hS) (fun w1 hw _=>(h0.keep (low_alike hS hw) (fun _ h=>h))) (deed_fine hdd (by omega) (by omega) (by omega) (by omega))),fun x12=>(q_ven (dv_3 (by omega) (dm_3 (by omega))) (fun w1 hb ha hy=>(dat_new (keeps_v ((sendV s (⟨((1+((d.p:Nat) % 3:Nat):Nat):Int),((((d.o:Nat) % 8:Nat)+1:Nat):Int),0,0,2,0,0,0,0⟩:Mg)).1)) (fixed_low hS) x12 (i:=0) rfl hb ha hy new_base)))⟩,
 fun h11=>have h11:¬ ((1+((d.p:Nat) % 3:Nat):Nat):Int)=3:=(by simpa using h11)
⟨(g_send (m:=(⟨((1+((d.p:Nat) % 3:Nat):Nat):Int),((((d.o:Nat) % 8:Nat)+1:Nat):Int),0,0,2,(((d.q:Nat)+1:Nat):Int),3,0,0⟩:Mg)) (r:=sendV s (⟨((1+((d.p:Nat) % 3:Nat):Nat):Int),((((d.o:Nat) % 8:Nat)+1:Nat):Int),0,0,2,(((d.q:Nat)+1:Nat):Int),3,0,0⟩:Mg)) rfl (fixed_low hS) (fun w1 hw _=>(h0.keep (low_alike hS hw) (fun _ h=>h))) (deed_fine hdd (by omega) (by omega) (by omega) (by omega))),fun x13=>(q_ven (dv_3 (by omega) (dm_1 (by omega))) (fun w1 hb ha hy=>(dat_new (keeps_v ((sendV s (⟨((1+((d.p:Nat) % 3:Nat):Nat):Int),((((d.o:Nat) % 8:Nat)+1:Nat):Int),0,0,2,(((d.q:Nat)+1:Nat):Int),3,0,0⟩:Mg)).1)) (fixed_low hS) x13 (i:=0) rfl hb ha hy new_base)))⟩⟩⟩⟩⟩⟩⟩⟩⟩⟩⟩⟩⟩⟩⟩)
end Go.Proofs.Ytcpahggkioagkaa.venue
