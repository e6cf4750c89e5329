/-
  OrdV
-/
import Derived.Test.YtcpahggkioagkaaMvf23
import Derived.Test.YtcpahggkioagkaaMvf27
import Derived.Test.YtcpahggkioagkaaMvf16
import Derived.Test.YtcpahggkioagkaaMvf14
set_option linter.unusedVariables false
set_option linter.unusedSimpArgs false
namespace Go.Proofs.Ytcpahggkioagkaa.order
open Go.RowKit Go.Proofs.Ytcpahggkioagkaa
def mName (i a y d:Int):Bool:=decide (1≤i∧i≤1000000000000∧0≤a∧a < 8∧0≤y∧y < 8∧(d=1∨d=2))
def mCount (q p f v:Int):Bool:=decide (1≤q∧1≤p∧0≤f∧f≤q∧0≤v)
def mPend (m r:Int):Bool:=decide ((m=0∧r=0)∨(1≤m∧1≤r))
def pend (m:Int):Bool:=decide (m≠0)
def mPhase (q f ph m v:Int):Bool:=decide ((ph=1∧f=0∧v=0∧m=0)∨(ph=2∧f < q)∨(ph=3∧m=0))
theorem right_parts (o:Or):right o=(mName o.i o.a o.y o.d && mCount o.q o.p o.f o.v && mPend o.m o.r && mPhase o.q o.f o.h o.m o.v):=by
 rw [Bool.eq_iff_iff,right_iff]
 unfold Rightly mName mCount mPend mPhase
 simp only [Bool.and_eq_true,decide_eq_true_eq]
 omega
def can (o:Or) (n:Nt):Bool:=decide (((n.t=1∨n.t=2)∧o.h=1)∨(n.t=3∧o.h=2∧n.q≤o.q - o.f)∨(n.t=4∧o.h=2)∨(n.t=5∧o.h=2∧o.m≠0∧n.q=o.m∧n.p=o.r∧o.f < n.q)∨(n.t=6∧o.h=2∧o.m≠0))
def told (o:Or) (n:Nt):Or:=if n.t=1 then { o with h:=2 } else if n.t=2∨n.t=4 then done o else if n.t=3 then (if o.f+n.q=o.q then done { o with f:=o.f+n.q } else { o with f:=o.f+n.q }) else if n.t=5 then { o with q:=n.q,p:=n.p,m:=0,r:=0 } else if n.t=6 then { o with m:=0,r:=0 } else o
theorem take_can {o:Or} {n:Nt} (h1:right o=true) (h2:noteOk n=true) (h3:n.o=o.i):take o n=if can o n=true then (told o n,0) else (o,8):=by
 have hr:=right_iff.1 h1
 have hn:=(noteOk_iff.1 h2).2.2
 unfold take
 rw [h1,h2,if_neg (by simp [h3])]
 obtain ⟨i,a,y,d,q,p,f,ph,m,r,v,g⟩:=o
 obtain ⟨zN,tN,oN,qN,pN⟩:=n
 unfold Rightly at hr
 simp only at hr hn h3
 by_cases t1:tN=1
 ·subst t1
  by_cases hp:ph=1<;>simp [can,told,hp]
 by_cases t2:tN=2
 ·subst t2
  by_cases hp:ph=1<;>simp [can,told,hp]
 by_cases t3:tN=3
 ·subst t3
  have hq:=(tell_fill hn).1
  by_cases hp:ph=2
  ·subst hp
   by_cases hl:qN≤q - f
   ·by_cases he:f+qN=q
    ·simp [can,told,hl,he,show ¬ qN < q - f by omega]
    ·simp [can,told,hl,he,show qN < q - f by omega]
   ·simp [can,told,hl]
  ·simp [can,told,hp]
 by_cases t4:tN=4
 ·subst t4
  by_cases hp:ph=2<;>simp [can,told,hp]
 by_cases t5:tN=5
 ·subst t5
  by_cases hp:ph=2
  ·by_cases hm:m=0
   ·simp [can,told,hp,hm]
   ·have hm' : 0 < m:=by omega
    by_cases hc:qN=m∧pN=r∧f < qN
    ·simp [can,told,hp,hm,hm',hc]
    ·simp [can,told,hp,hm,hm',hc]
  ·simp [can,told,hp]
 by_cases t6:tN=6
 ·subst t6
  by_cases hp:ph=2
  ·by_cases hm:m=0
   ·simp [can,told,hp,hm]
   ·have hm' : 0 < m:=by omega
    simp [can,told,hp,hm,hm']
  ·simp [can,told,hp]
 simp [can,told,t1,t2,t3,t4,t5,t6]
theorem told_in {o:Or} {n:Nt} (hr:right o=true) (hn:noteOk n=true) (hc:can o n=true) (hf:o.fine):n.t=3 → -9223372036854775808≤o.f+n.q∧o.f+n.q≤9223372036854775807:=fun ht=>by
 have h1:=right_iff.1 hr
 have h2:=(noteOk_iff.1 hn).2.2
 rw [ht] at h2
 have h3:=(tell_fill h2).1
 have h4:=hf.2.2.2.2.1
 unfold frame.inR at h4
 unfold Rightly at h1
 simp only [can,ht,decide_eq_true_eq] at hc
 omega
def nc (n:Nt):Array Value:=#[.int .i64 n.z,.int .i64 n.t,.int .i64 n.o,.int .i64 n.q,.int .i64 n.p]
end Go.Proofs.Ytcpahggkioagkaa.order
namespace Go.Proofs.Ytcpahggkioagkaa.book
open Go.RowKit Go.Proofs.Ytcpahggkioagkaa
open Go.Proofs.Ytcpahggkioagkaa.order (Or open_ worth oz)
open Go.Proofs.Ytcpahggkioagkaa.rec (Rc)
set_option maxRecDepth 20000
theorem nt_fine {n:order.Nt} (hn:frame.inR n.z∧frame.inR n.t∧frame.inR n.o∧frame.inR n.q∧frame.inR n.p):n.rc.fine:=by
 obtain ⟨h1,h2,h3,h4,h5⟩:=hn
 unfold order.Nt.rc Rc.fine
 unfold frame.inR at *
 dsimp only
 refine ⟨by omega,h3,by omega,by omega,by omega,h4,h5,by omega,by omega,by omega,h1,h2⟩
theorem sub_in {o:Or} (ho:o.fine) (h:order.right o=true) : -9223372036854775808≤o.q - o.f∧o.q - o.f≤9223372036854775807:=by
 have:=order.right_iff.1 h
 have h2:=ho.2.2.2.2.1
 unfold order.Rightly at this
 unfold frame.inR at h2
 omega
theorem take_1 {o:Or} {n:order.Nt} (h:order.right o=false∨order.noteOk n=false∨¬ n.o=o.i):order.take o n=(o,1):=if_pos h
theorem begin_yes {r:Rc} (h:r.k=1∧rec.right r=true):order.begin_ r=(⟨r.o,r.a,r.y,r.d,r.q,r.p,0,1,0,0,0,false⟩,0):=if_pos h
theorem begin_no {r:Rc} (h:¬ (r.k=1∧rec.right r=true)):order.begin_ r=(oz,1):=if_neg h
theorem change_1 {o:Or} {x z:Int} (h:order.right o=false∨x < 1∨z < 1∨o.v=9223372036854775807):order.change o x z=(o,1):=if_pos h
theorem change_8 {o:Or} {x z:Int} (h:¬ (order.right o=false∨x < 1∨z < 1∨o.v=9223372036854775807)) (h2:¬ o.h=2∨o.m≠0∨o.g=true):order.change o x z=(o,8):=by unfold order.change;rw [if_neg h,if_pos h2]
theorem change_0 {o:Or} {x z:Int} (h:¬ (order.right o=false∨x < 1∨z < 1∨o.v=9223372036854775807)) (h2:o.h=2) (h3:o.m=0) (h4:o.g=false):order.change o x z=({ o with m:=x,r:=z,v:=o.v+1 },0):=by unfold order.change;rw [if_neg h,if_neg (by rw [h4];simp [h2,h3])]
theorem v_most {o:Or} (ho:o.fine) (h:¬ addE o.v 1=0):o.v=9223372036854775807:=by
 have:=ho.2.2.2.2.2.2.2.2.2.2
 unfold frame.inR at this
 exact Decidable.byContradiction fun e=>h (addE_iff.2 (by unfold inI;omega))
theorem v_less {o:Or} (h:addE o.v 1=0) (e:o.v=9223372036854775807):False:=by
 have:=addE_iff.1 h
 unfold inI at this
 omega
theorem v_addV {o:Or} (h:addE o.v 1=0):addV o.v 1=o.v+1:=by
 unfold addE at h
 unfold addV
 split at h
 ·rename_i g;exact if_pos g
 ·cases h
theorem o_rng {o:Or} (ho:o.fine) (h:order.right o=true):0≤o.f∧o.f≤o.q∧o.q≤9223372036854775807∧0≤o.m∧o.m≤9223372036854775807:=by
 have h1:=order.right_iff.1 h
 have h2:=ho.2.2.2.2.1
 have h3:=ho.2.2.2.2.2.2.2.2.1
 unfold order.Rightly at h1
 unfold frame.inR at h2 h3
 omega
theorem open_0 {o:Or} (h:order.right o=false∨o.h=3):open_ o=0:=if_pos h
theorem open_1 {o:Or} (h:order.right o=true) (h2:¬ o.h=3):open_ o=max o.q o.m - o.f:=by
 unfold open_
 rw [if_neg (by rw [h];simp [h2])]
 split<;>omega
section
variable {o:Or}
end
theorem v_mname (o:Or)  (w:World):Calls Try.prog 61 #[.agg (order.oc o)] w fun e w'=>e = .returned (.bool (order.mName o.i o.a o.y o.d))∧Below w.heap.size w w' :=
 calls_by (fn:=Try.f61) (r:=.bool (order.mName o.i o.a o.y o.d)) (t:=.s (.k (.s (.k (.s (.k (.s (.k (.s (.k (.s (.k (.s (.k .z) (.k (.s .z .z)))) (.k .z))) (.k (.k .z)))) (.k (.k (.k .z))))) (.k (.k (.k (.k .z)))))) (.k (.k (.k (.k (.k .z))))))) (.k (.k (.k (.k (.k (.k .z))))))) (X :=
 let k3:=order.mName o.i o.a o.y o.d;let k0:=(.bool false:Value) = .bool k3;let k1:=(.bool true:Value) = .bool k3;let k2:=decide (o.i≤1000000000000); ∀ g0:Nat,((decide (o.i ≥ 1))=true→(k2=true→((decide (o.a ≥ 0))=true→((decide (o.a < 8))=true→((decide (o.y ≥ 0))=true→((decide (o.y < 8))=true→((decide (o.d=1))=true→k1)∧((decide (o.d=1))=false→((decide (o.d=2))=true→k1)∧((decide (o.d=2))=false→k0)))∧((decide (o.y < 8))=false→k0))∧((decide (o.y ≥ 0))=false→k0))∧((decide (o.a < 8))=false→k0))∧((decide (o.a ≥ 0))=false→k0))∧(k2=false→k0))∧((decide (o.i ≥ 1))=false→k0)) Try.func61 (by kernel_rfl)
 (fun g0=>⟨fun h1=>have h1:¬ o.i < 1:=(by simpa using h1)
⟨fun h2=>have h2:¬ 1000000000000 < o.i:=(by simpa using h2)
⟨fun h3=>have h3:¬ o.a < 0:=(by simpa using h3)
⟨fun h4=>have h4:o.a < 8:=(by simpa using h4)
⟨fun h5=>have h5:¬ o.y < 0:=(by simpa using h5)
⟨fun h6=>have h6:o.y < 8:=(by simpa using h6)
⟨fun h7=>have h7:o.d=1:=(by simpa using h7)
(vt (by omega)),
 fun h7=>have h7:¬ o.d=1:=(by simpa using h7)
⟨fun h8=>have h8:o.d=2:=(by simpa using h8)
(vt (by omega)),
 fun h8=>have h8:¬ o.d=2:=(by simpa using h8)
(vf (by omega))⟩⟩,
 fun h6=>have h6:¬ o.y < 8:=(by simpa using h6)
(vf (by omega))⟩,
 fun h5=>have h5:o.y < 0:=(by simpa using h5)
(vf (by omega))⟩,
 fun h4=>have h4:¬ o.a < 8:=(by simpa using h4)
(vf (by omega))⟩,
 fun h3=>have h3:o.a < 0:=(by simpa using h3)
(vf (by omega))⟩,
 fun h2=>have h2:1000000000000 < o.i:=(by simpa using h2)
(vf (by omega))⟩,
 fun h1=>have h1:o.i < 1:=(by simpa using h1)
(vf (by omega))⟩)
theorem v_mcount (o:Or)  (w:World):Calls Try.prog 62 #[.agg (order.oc o)] w fun e w'=>e = .returned (.bool (order.mCount o.q o.p o.f o.v))∧Below w.heap.size w w' :=
 calls_by (fn:=Try.f62) (r:=.bool (order.mCount o.q o.p o.f o.v)) (t:=.s (.k (.s (.k (.s (.k (.s (.k (.s .z .z)) (.k .z))) (.k (.k .z)))) (.k (.k (.k .z))))) (.k (.k (.k (.k .z))))) (X :=
 let k1:=order.mCount o.q o.p o.f o.v;let k0:=(.bool false:Value) = .bool k1; ∀ g0:Nat,((decide (o.q ≥ 1))=true→((decide (o.p ≥ 1))=true→((decide (o.f ≥ 0))=true→((decide (o.f≤o.q))=true→((decide (o.v ≥ 0))=true→((.bool true:Value) = .bool k1))∧((decide (o.v ≥ 0))=false→k0))∧((decide (o.f≤o.q))=false→k0))∧((decide (o.f ≥ 0))=false→k0))∧((decide (o.p ≥ 1))=false→k0))∧((decide (o.q ≥ 1))=false→k0)) Try.func62 (by kernel_rfl)
 (fun g0=>⟨fun h1=>have h1:¬ o.q < 1:=(by simpa using h1)
⟨fun h2=>have h2:¬ o.p < 1:=(by simpa using h2)
⟨fun h3=>have h3:¬ o.f < 0:=(by simpa using h3)
⟨fun h4=>have h4:¬ o.q < o.f:=(by simpa using h4)
⟨fun h5=>have h5:¬ o.v < 0:=(by simpa using h5)
(vt (by omega)),
 fun h5=>have h5:o.v < 0:=(by simpa using h5)
(vf (by omega))⟩,
 fun h4=>have h4:o.q < o.f:=(by simpa using h4)
(vf (by omega))⟩,
 fun h3=>have h3:o.f < 0:=(by simpa using h3)
(vf (by omega))⟩,
 fun h2=>have h2:o.p < 1:=(by simpa using h2)
(vf (by omega))⟩,
 fun h1=>have h1:o.q < 1:=(by simpa using h1)
(vf (by omega))⟩)
theorem v_mpend (o:Or)  (w:World):Calls Try.prog 63 #[.agg (order.oc o)] w fun e w'=>e = .returned (.bool (order.mPend o.m o.r))∧Below w.heap.size w w' :=
 calls_by (fn:=Try.f63) (r:=.bool (order.mPend o.m o.r)) (t:=.s (.k (.s (.k .z) (.k (.m false (.k .z))))) (.k (.k (.s (.k (.s .z .z)) (.k .z))))) (X :=
 let k0:=(.bool false:Value) = .bool (order.mPend o.m o.r);let k1:=(.bool true:Value) = .bool (order.mPend o.m o.r);let k2:=decide (o.m ≥ 1); ∀ g0:Nat,((decide (o.m=0))=true→((decide (o.r=0))=true→k1)∧((decide (o.r=0))=false→k2=false∧k0))∧((decide (o.m=0))=false→(k2=true→((decide (o.r ≥ 1))=true→k1)∧((decide (o.r ≥ 1))=false→k0))∧(k2=false→k0))) Try.func63 (by kernel_rfl)
 (fun g0=>⟨fun h1=>have h1:o.m=0:=(by simpa using h1)
⟨fun h2=>have h2:o.r=0:=(by simpa using h2)
(vt (by omega)),
 fun h2=>have h2:¬ o.r=0:=(by simpa using h2)
⟨by simp only [dq];omega,(vf (by omega))⟩⟩,
 fun h1=>have h1:¬ o.m=0:=(by simpa using h1)
⟨fun h3=>have h3:¬ o.m < 1:=(by simpa using h3)
⟨fun h4=>have h4:¬ o.r < 1:=(by simpa using h4)
(vt (by omega)),
 fun h4=>have h4:o.r < 1:=(by simpa using h4)
(vf (by omega))⟩,
 fun h3=>have h3:o.m < 1:=(by simpa using h3)
(vf (by omega))⟩⟩)
theorem v_pend (o:Or)  (w:World):Calls Try.prog 45 #[.agg (order.oc o)] w fun e w'=>e = .returned (.bool (order.pend o.m))∧Below w.heap.size w w' :=
 calls_by (fn:=Try.f45) (r:=.bool (order.pend o.m)) (t:=.s .z .z) (X :=
∀ g0:Nat,((!decide (o.m=0))=true→((.bool true:Value) = .bool (order.pend o.m)))∧((!decide (o.m=0))=false→((.bool false:Value) = .bool (order.pend o.m)))) Try.func45 (by kernel_rfl)
 (fun g0=>⟨fun h1=>have h1:¬ o.m=0:=(by simpa using h1)
(vt (by omega)),
 fun h1=>have h1:o.m=0:=(by simpa using h1)
(vf (by omega))⟩)
theorem v_mphase (o:Or)  (w:World):Calls Try.prog 64 #[.agg (order.oc o)] w fun e w'=>e = .returned (.bool (order.mPhase o.q o.f o.h o.m o.v))∧Below w.heap.size w w' :=
 calls_by (fn:=Try.f64) (r:=.bool (order.mPhase o.q o.f o.h o.m o.v)) (t:=.s (.s (.k (.s (.k (.cs (order.pend o.m) .z .z)) (.k .z))) (.k (.k .z))) (.s (.s .z .z) (.s (.cs (order.pend o.m) .z .z) .z))) (X :=
 let k3:=order.mPhase o.q o.f o.h o.m o.v;let k0:=(.bool false:Value) = .bool k3;let k1:=(.bool true:Value) = .bool k3;let k2:=order.pend o.m; ∀ g0:Nat,((decide (o.h=1))=true→((decide (o.f=0))=true→((decide (o.v=0))=true→Gives Try.prog w [] 45 #[.agg (order.oc o)] (.bool k2)∧(k2=true→k0)∧(k2=false→k1))∧((decide (o.v=0))=false→k0))∧((decide (o.f=0))=false→k0))∧((decide (o.h=1))=false→((decide (o.h=2))=true→((decide (o.f < o.q))=true→k1)∧((decide (o.f < o.q))=false→k0))∧((decide (o.h=2))=false→((decide (o.h=3))=true→Gives Try.prog w [] 45 #[.agg (order.oc o)] (.bool k2)∧(k2=true→k0)∧(k2=false→k1))∧((decide (o.h=3))=false→k0)))) Try.func64 (by kernel_rfl)
 (fun g0=>⟨fun h1=>have h1:o.h=1:=(by simpa using h1)
⟨fun h2=>have h2:o.f=0:=(by simpa using h2)
⟨fun h3=>have h3:o.v=0:=(by simpa using h3)
⟨gives (v_pend o),fun h4=>(vf (by have eh4:=of_decide_eq_true h4;omega)),
 fun h4=>(vt (by have eh4:=of_decide_eq_false h4;omega))⟩,
 fun h3=>have h3:¬ o.v=0:=(by simpa using h3)
(vf (by omega))⟩,
 fun h2=>have h2:¬ o.f=0:=(by simpa using h2)
(vf (by omega))⟩,
 fun h1=>have h1:¬ o.h=1:=(by simpa using h1)
⟨fun h5=>have h5:o.h=2:=(by simpa using h5)
⟨fun h6=>have h6:o.f < o.q:=(by simpa using h6)
(vt (by omega)),
 fun h6=>have h6:¬ o.f < o.q:=(by simpa using h6)
(vf (by omega))⟩,
 fun h5=>have h5:¬ o.h=2:=(by simpa using h5)
⟨fun h7=>have h7:o.h=3:=(by simpa using h7)
⟨gives (v_pend o),fun h8=>(vf (by have eh8:=of_decide_eq_true h8;omega)),
 fun h8=>(vt (by have eh8:=of_decide_eq_false h8;omega))⟩,
 fun h7=>have h7:¬ o.h=3:=(by simpa using h7)
(vf (by omega))⟩⟩⟩)
theorem v_oright (o:Or)  (w:World):Calls Try.prog 44 #[.agg (order.oc o)] w fun e w'=>e = .returned (.bool (order.right o))∧Below w.heap.size w w' :=
 calls_by (fn:=Try.f44) (r:=.bool (order.right o)) (t:=.cs (order.mName o.i o.a o.y o.d) (.k (.cs (order.mCount o.q o.p o.f o.v) (.k (.cs (order.mPend o.m o.r) (.k (.cs (order.mPhase o.q o.f o.h o.m o.v) .z .z)) (.k .z))) (.k (.k .z)))) (.k (.k (.k .z)))) (X :=
 let k0:=(.bool false:Value) = .bool (order.right o);let k1:=order.mPhase o.q o.f o.h o.m o.v;let k2:=order.mCount o.q o.p o.f o.v;let k3:=order.mName o.i o.a o.y o.d;let k4:Array Value:=#[.agg (order.oc o)];let k5:=order.mPend o.m o.r; ∀ g0:Nat,Gives Try.prog w [] 61 k4 (.bool k3)∧(k3=true→Gives Try.prog w [] 62 k4 (.bool k2)∧(k2=true→Gives Try.prog w [] 63 k4 (.bool k5)∧(k5=true→Gives Try.prog w [] 64 k4 (.bool k1)∧(k1=true→((.bool true:Value) = .bool (order.right o)))∧(k1=false→k0))∧(k5=false→k0))∧(k2=false→k0))∧(k3=false→k0)) Try.func44 (by kernel_rfl)
 (fun g0=>⟨gives (v_mname o),fun h1=>⟨gives (v_mcount o),fun h2=>⟨gives (v_mpend o),fun h3=>⟨gives (v_mphase o),fun h4=>(by rw [order.right_parts,h1,h2,h3,h4];rfl),
 fun h4=>(by rw [order.right_parts,h1,h2,h3,h4];rfl)⟩,
 fun h3=>(by rw [order.right_parts,h1,h2,h3];rfl)⟩,
 fun h2=>(by rw [order.right_parts,h1,h2];rfl)⟩,
 fun h1=>(by rw [order.right_parts,h1];rfl)⟩)
theorem v_settled (o:Or)  (w:World):Calls Try.prog 66 #[.agg (order.oc o)] w fun e w'=>e = .returned (.agg (order.oc { o with m:=0,r:=0 }))∧Below w.heap.size w w' :=
 calls_by (fn:=Try.f66) (r:=.agg (order.oc { o with m:=0,r:=0 })) (t:=.z) (X :=
∀ g0:Nat,∀ g1:Nat,((.agg #[.int .i64 o.i,.int .i64 o.a,.int .i64 o.y,.int .i64 o.d,.int .i64 o.q,.int .i64 o.p,.int .i64 o.f,.int .i64 o.h,.int .i64 0,.int .i64 0,.int .i64 o.v,.bool o.g]:Value) = .agg (order.oc { o with m:=0,r:=0 }))) Try.func66 (by kernel_rfl)
 (fun g0=>fun g1=>rfl)
theorem v_done (o:Or)  (w:World):Calls Try.prog 65 #[.agg (order.oc o)] w fun e w'=>e = .returned (.agg (order.oc (order.done o)))∧Below w.heap.size w w' :=
 calls_by (fn:=Try.f65) (r:=.agg (order.oc (order.done o))) (t:=.c (.agg #[.int .i64 o.i,.int .i64 o.a,.int .i64 o.y,.int .i64 o.d,.int .i64 o.q,.int .i64 o.p,.int .i64 o.f,.int .i64 3,.int .i64 0,.int .i64 0,.int .i64 o.v,.bool o.g]) .z) (X :=
 let k0:Array Value:=#[.int .i64 o.i,.int .i64 o.a,.int .i64 o.y,.int .i64 o.d,.int .i64 o.q,.int .i64 o.p,.int .i64 o.f,.int .i64 3,.int .i64 0,.int .i64 0,.int .i64 o.v,.bool o.g]; ∀ g0:Nat,∀ g1:Nat,Gives Try.prog w [] 66 #[.agg #[.int .i64 o.i,.int .i64 o.a,.int .i64 o.y,.int .i64 o.d,.int .i64 o.q,.int .i64 o.p,.int .i64 o.f,.int .i64 3,.int .i64 o.m,.int .i64 o.r,.int .i64 o.v,.bool o.g]] (.agg k0)∧((.agg k0:Value) = .agg (order.oc (order.done o)))) Try.func65 (by kernel_rfl)
 (fun g0=>fun g1=>⟨gives (v_settled (⟨o.i,o.a,o.y,o.d,o.q,o.p,o.f,3,o.m,o.r,o.v,o.g⟩)),rfl⟩)
theorem v_can (o:Or) (n:order.Nt)  (hi : -9223372036854775808≤o.q - o.f∧o.q - o.f≤9223372036854775807) (w:World):Calls Try.prog 47 #[.agg (order.oc o),.agg (order.nc n)] w fun e w'=>e = .returned (.bool (order.can o n))∧Below w.heap.size w w' :=
 calls_by (fn:=Try.f47) (r:=.bool (order.can o n)) (t:=.s (.s .z .z) (.s (.s .z .z) (.s (.s (.k (.e (.int .i64 (o.q - o.f)) (.s .z .z))) (.k .z)) (.s (.s .z .z) (.s (.s (.k (.cs (order.pend o.m) (.k (.s (.k (.s (.k (.s .z .z)) (.k .z))) (.k (.k .z)))) (.k (.k (.k .z))))) (.k (.k (.k (.k .z))))) (.s (.s (.k (.cs (order.pend o.m) .z .z)) (.k .z)) .z)))))) (X :=
 let k0:=(.bool false:Value) = .bool (order.can o n);let k1:=(.bool true:Value) = .bool (order.can o n);let k2:=decide (o.h=2);let k3:=order.pend o.m;let k4:=decide (o.h=1);let k5:=decide (n.q≤(o.q - o.f)); ∀ g0:Nat,∀ g1:Nat,((decide (n.t=1))=true→(k4=true→k1)∧(k4=false→k0))∧((decide (n.t=1))=false→((decide (n.t=2))=true→(k4=true→k1)∧(k4=false→k0))∧((decide (n.t=2))=false→((decide (n.t=3))=true→(k2=true→(.int .i64 (IntKind.i64.wrap (o.q - o.f)):Value) = .int .i64 (o.q - o.f)∧(k5=true→k1)∧(k5=false→k0))∧(k2=false→k0))∧((decide (n.t=3))=false→((decide (n.t=4))=true→(k2=true→k1)∧(k2=false→k0))∧((decide (n.t=4))=false→((decide (n.t=5))=true→(k2=true→Gives Try.prog w [] 45 #[.agg (order.oc o)] (.bool k3)∧(k3=true→((decide (n.q=o.m))=true→((decide (n.p=o.r))=true→((decide (n.q > o.f))=true→k1)∧((decide (n.q > o.f))=false→k0))∧((decide (n.p=o.r))=false→k0))∧((decide (n.q=o.m))=false→k0))∧(k3=false→k0))∧(k2=false→k0))∧((decide (n.t=5))=false→((decide (n.t=6))=true→(k2=true→Gives Try.prog w [] 45 #[.agg (order.oc o)] (.bool k3)∧(k3=true→k1)∧(k3=false→k0))∧(k2=false→k0))∧((decide (n.t=6))=false→k0))))))) Try.func47 (by kernel_rfl)
 (fun g0=>fun g1=>⟨fun h1=>have h1:n.t=1:=(by simpa using h1)
⟨fun h2=>have h2:o.h=1:=(by simpa using h2)
(vt (by omega)),
 fun h2=>have h2:¬ o.h=1:=(by simpa using h2)
(vf (by omega))⟩,
 fun h1=>have h1:¬ n.t=1:=(by simpa using h1)
⟨fun h3=>have h3:n.t=2:=(by simpa using h3)
⟨fun h4=>have h4:o.h=1:=(by simpa using h4)
(vt (by omega)),
 fun h4=>have h4:¬ o.h=1:=(by simpa using h4)
(vf (by omega))⟩,
 fun h3=>have h3:¬ n.t=2:=(by simpa using h3)
⟨fun h5=>have h5:n.t=3:=(by simpa using h5)
⟨fun h6=>have h6:o.h=2:=(by simpa using h6)
⟨wrap_is rfl (by omega) (by omega),⟨fun h7=>have h7:¬ (o.q - o.f) < n.q:=(by simpa using h7)
(vt (by omega)),
 fun h7=>have h7:(o.q - o.f) < n.q:=(by simpa using h7)
(vf (by omega))⟩⟩,
 fun h6=>have h6:¬ o.h=2:=(by simpa using h6)
(vf (by omega))⟩,
 fun h5=>have h5:¬ n.t=3:=(by simpa using h5)
⟨fun h8=>have h8:n.t=4:=(by simpa using h8)
⟨fun h9=>have h9:o.h=2:=(by simpa using h9)
(vt (by omega)),
 fun h9=>have h9:¬ o.h=2:=(by simpa using h9)
(vf (by omega))⟩,
 fun h8=>have h8:¬ n.t=4:=(by simpa using h8)
⟨fun h10=>have h10:n.t=5:=(by simpa using h10)
⟨fun h11=>have h11:o.h=2:=(by simpa using h11)
⟨gives (v_pend o),fun h12=>⟨fun h13=>have h13:n.q=o.m:=(by simpa using h13)
⟨fun h14=>have h14:n.p=o.r:=(by simpa using h14)
⟨fun h15=>have h15:o.f < n.q:=(by simpa using h15)
(vt (by have eh12:=of_decide_eq_true h12;omega)),
 fun h15=>have h15:¬ o.f < n.q:=(by simpa using h15)
(vf (by have eh12:=of_decide_eq_true h12;omega))⟩,
 fun h14=>have h14:¬ n.p=o.r:=(by simpa using h14)
(vf (by have eh12:=of_decide_eq_true h12;omega))⟩,
 fun h13=>have h13:¬ n.q=o.m:=(by simpa using h13)
(vf (by have eh12:=of_decide_eq_true h12;omega))⟩,
 fun h12=>(vf (by have eh12:=of_decide_eq_false h12;omega))⟩,
 fun h11=>have h11:¬ o.h=2:=(by simpa using h11)
(vf (by omega))⟩,
 fun h10=>have h10:¬ n.t=5:=(by simpa using h10)
⟨fun h16=>have h16:n.t=6:=(by simpa using h16)
⟨fun h17=>have h17:o.h=2:=(by simpa using h17)
⟨gives (v_pend o),fun h18=>(vt (by have eh18:=of_decide_eq_true h18;omega)),
 fun h18=>(vf (by have eh18:=of_decide_eq_false h18;omega))⟩,
 fun h17=>have h17:¬ o.h=2:=(by simpa using h17)
(vf (by omega))⟩,
 fun h16=>have h16:¬ n.t=6:=(by simpa using h16)
(vf (by omega))⟩⟩⟩⟩⟩⟩)
theorem v_told (o:Or) (n:order.Nt)  (hi:n.t=3 → -9223372036854775808≤o.f+n.q∧o.f+n.q≤9223372036854775807) (w:World):Calls Try.prog 48 #[.agg (order.oc o),.agg (order.nc n)] w fun e w'=>e = .returned (.agg (order.oc (order.told o n)))∧Below w.heap.size w w' :=
 calls_by (fn:=Try.f48) (r:=.agg (order.oc (order.told o n))) (t:=let k0:Value:=.agg #[.int .i64 o.i,.int .i64 o.a,.int .i64 o.y,.int .i64 o.d,.int .i64 o.q,.int .i64 o.p,.int .i64 o.f,.int .i64 3,.int .i64 0,.int .i64 0,.int .i64 o.v,.bool o.g]; .s .z (.s (.c k0 .z) (.s (.c k0 .z) (.s (.e (.int .i64 (o.f+n.q)) (.s (.c (.agg #[.int .i64 o.i,.int .i64 o.a,.int .i64 o.y,.int .i64 o.d,.int .i64 o.q,.int .i64 o.p,.int .i64 (o.f+n.q),.int .i64 3,.int .i64 0,.int .i64 0,.int .i64 o.v,.bool o.g]) .z) .z)) (.s (.o [0] (.c (.agg #[.int .i64 o.i,.int .i64 o.a,.int .i64 o.y,.int .i64 o.d,.int .i64 n.q,.int .i64 n.p,.int .i64 o.f,.int .i64 o.h,.int .i64 0,.int .i64 0,.int .i64 o.v,.bool o.g]) .z)) (.s (.c (.agg #[.int .i64 o.i,.int .i64 o.a,.int .i64 o.y,.int .i64 o.d,.int .i64 o.q,.int .i64 o.p,.int .i64 o.f,.int .i64 o.h,.int .i64 0,.int .i64 0,.int .i64 o.v,.bool o.g]) .z) .z)))))) (X :=
 let k0:Array Value:=#[.int .i64 o.i,.int .i64 o.a,.int .i64 o.y,.int .i64 o.d,.int .i64 o.q,.int .i64 o.p,.int .i64 o.f,.int .i64 3,.int .i64 0,.int .i64 0,.int .i64 o.v,.bool o.g];let k1:=order.oc (order.told o n);let k2:Array Value:=#[.int .i64 o.i,.int .i64 o.a,.int .i64 o.y,.int .i64 o.d,.int .i64 o.q,.int .i64 o.p,.int .i64 (o.f+n.q),.int .i64 o.h,.int .i64 o.m,.int .i64 o.r,.int .i64 o.v,.bool o.g];let k3:Array Value:=#[.int .i64 o.i,.int .i64 o.a,.int .i64 o.y,.int .i64 o.d,.int .i64 o.q,.int .i64 o.p,.int .i64 (o.f+n.q),.int .i64 3,.int .i64 0,.int .i64 0,.int .i64 o.v,.bool o.g];let k4:Array Value:=#[.int .i64 o.i,.int .i64 o.a,.int .i64 o.y,.int .i64 o.d,.int .i64 n.q,.int .i64 n.p,.int .i64 o.f,.int .i64 o.h,.int .i64 0,.int .i64 0,.int .i64 o.v,.bool o.g];let k5:Array Value:=#[.int .i64 o.i,.int .i64 o.a,.int .i64 o.y,.int .i64 o.d,.int .i64 o.q,.int .i64 o.p,.int .i64 o.f,.int .i64 o.h,.int .i64 0,.int .i64 0,.int .i64 o.v,.bool o.g];let k6:=(.agg k0:Value) = .agg k1;let k7:=decide ((o.f+n.q)=o.q);let k8:Array Value:=#[.agg (order.oc o)]; ∀ g0:Nat,∀ g1:Nat,∀ g2:Nat,((decide (n.t=1))=true→((.agg #[.int .i64 o.i,.int .i64 o.a,.int .i64 o.y,.int .i64 o.d,.int .i64 o.q,.int .i64 o.p,.int .i64 o.f,.int .i64 2,.int .i64 o.m,.int .i64 o.r,.int .i64 o.v,.bool o.g]:Value) = .agg k1))∧((decide (n.t=1))=false→((decide (n.t=2))=true→Gives Try.prog w [] 65 k8 (.agg k0)∧k6)∧((decide (n.t=2))=false→((decide (n.t=4))=true→Gives Try.prog w [] 65 k8 (.agg k0)∧k6)∧((decide (n.t=4))=false→((decide (n.t=3))=true→(.int .i64 (IntKind.i64.wrap (o.f+n.q)):Value) = .int .i64 (o.f+n.q)∧(k7=true→Gives Try.prog w [] 65 #[.agg k2] (.agg k3)∧((.agg k3:Value) = .agg k1))∧(k7=false→((.agg k2:Value) = .agg k1)))∧((decide (n.t=3))=false→((decide (n.t=5))=true→Gives Try.prog w [] 66 #[.agg #[.int .i64 o.i,.int .i64 o.a,.int .i64 o.y,.int .i64 o.d,.int .i64 n.q,.int .i64 n.p,.int .i64 o.f,.int .i64 o.h,.int .i64 o.m,.int .i64 o.r,.int .i64 o.v,.bool o.g]] (.agg k4)∧((.agg k4:Value) = .agg k1))∧((decide (n.t=5))=false→((decide (n.t=6))=true→Gives Try.prog w [] 66 k8 (.agg k5)∧((.agg k5:Value) = .agg k1))∧((decide (n.t=6))=false→((.agg (order.oc o):Value) = .agg k1)))))))) Try.func48 (by kernel_rfl)
 (fun g0=>fun g1=>fun g2=>⟨fun h1=>have h1:n.t=1:=(by simpa using h1)
(by simp [order.told,order.done,order.oc,h1]),
 fun h1=>have h1:¬ n.t=1:=(by simpa using h1)
⟨fun h2=>have h2:n.t=2:=(by simpa using h2)
⟨gives (v_done o),(by simp [order.told,order.done,order.oc,h1,h2])⟩,
 fun h2=>have h2:¬ n.t=2:=(by simpa using h2)
⟨fun h3=>have h3:n.t=4:=(by simpa using h3)
⟨gives (v_done o),(by simp [order.told,order.done,order.oc,h1,h2,h3])⟩,
 fun h3=>have h3:¬ n.t=4:=(by simpa using h3)
⟨fun h4=>have h4:n.t=3:=(by simpa using h4)
⟨wrap_is rfl (by omega) (by omega),⟨fun h5=>have h5:(o.f+n.q)=o.q:=(by simpa using h5)
⟨gives (v_done (⟨o.i,o.a,o.y,o.d,o.q,o.p,(o.f+n.q),o.h,o.m,o.r,o.v,o.g⟩)),(by simp [order.told,order.done,order.oc,h1,h2,h3,h4,h5])⟩,
 fun h5=>have h5:¬ (o.f+n.q)=o.q:=(by simpa using h5)
(by simp [order.told,order.done,order.oc,h1,h2,h3,h4,h5])⟩⟩,
 fun h4=>have h4:¬ n.t=3:=(by simpa using h4)
⟨fun h6=>have h6:n.t=5:=(by simpa using h6)
⟨gives (v_settled (⟨o.i,o.a,o.y,o.d,n.q,n.p,o.f,o.h,o.m,o.r,o.v,o.g⟩)),(by simp [order.told,order.done,order.oc,h1,h2,h3,h4,h6])⟩,
 fun h6=>have h6:¬ n.t=5:=(by simpa using h6)
⟨fun h7=>have h7:n.t=6:=(by simpa using h7)
⟨gives (v_settled o),(by simp [order.told,order.done,order.oc,h1,h2,h3,h4,h6,h7])⟩,
 fun h7=>have h7:¬ n.t=6:=(by simpa using h7)
(by simp [order.told,order.done,order.oc,h1,h2,h3,h4,h6,h7])⟩⟩⟩⟩⟩⟩)
theorem v_ofnote (n:order.Nt)  (w:World):Calls Try.prog 46 #[.agg (order.nc n)] w fun e w'=>e = .returned (.agg (rec.rc n.rc))∧Below w.heap.size w w' :=
 calls_by (fn:=Try.f46) (r:=.agg (rec.rc n.rc)) (t:=.z) (X :=
∀ g0:Nat,∀ g1:Nat,((.agg #[.int .i64 6,.int .i64 n.o,.int .i64 0,.int .i64 0,.int .i64 0,.int .i64 n.q,.int .i64 n.p,.int .i64 0,.int .i64 0,.int .i64 0,.bool false,.int .i64 n.z,.int .i64 n.t]:Value) = .agg (rec.rc n.rc))) Try.func46 (by kernel_rfl)
 (fun g0=>fun g1=>rfl)
theorem v_take (o:Or) (n:order.Nt)  (ho:o.fine) (hn:frame.inR n.z∧frame.inR n.t∧frame.inR n.o∧frame.inR n.q∧frame.inR n.p) (w:World):Calls Try.prog 26 #[.agg (order.oc o),.agg (order.nc n)] w fun e w'=>e = .returned (.tuple #[.agg (order.oc (order.take o n).1),.int .i64 (order.take o n).2])∧Below w.heap.size w w' :=
 calls_by (fn:=Try.f26) (r:=.tuple #[.agg (order.oc (order.take o n).1),.int .i64 (order.take o n).2]) (t:=.cs (order.right o) (.k (.s (.k .z) (.k (.c (.agg (rec.rc n.rc)) (.cs (order.noteOk n) (.cs (order.can o n) (.c (.agg (order.oc (order.told o n))) .z) .z) .z))))) (.k (.k .z))) (X :=
 let k1:Array Value:=#[.agg (order.oc (order.take o n).1),.int .i64 (order.take o n).2];let k0:=(.tuple #[.agg (order.oc o),.int .i64 1]:Value) = .tuple k1;let k2:=order.noteOk n;let k3:=order.right o;let k4:=order.can o n;let k5:=order.oc (order.told o n);let k6:Array Value:=#[.agg (order.oc o),.agg (order.nc n)]; ∀ g0:Nat,∀ g1:Nat,∀ g2:Nat,Gives Try.prog w [] 44 #[.agg (order.oc o)] (.bool k3)∧(k3=true→((!decide (n.o=o.i))=true→k0)∧((!decide (n.o=o.i))=false→Gives Try.prog w [] 46 #[.agg (order.nc n)] (.agg (rec.rc n.rc))∧Gives Try.prog w [] 42 #[.agg (rec.rc n.rc)] (.bool k2)∧(k2=true→Gives Try.prog w [] 47 k6 (.bool k4)∧(k4=true→Gives Try.prog w [] 48 k6 (.agg k5)∧((.tuple #[.agg k5,.int .i64 0]:Value) = .tuple k1))∧(k4=false→((.tuple #[.agg (order.oc o),.int .i64 8]:Value) = .tuple k1)))∧(k2=false→k0)))∧(k3=false→k0)) Try.func26 (by kernel_rfl)
 (fun g0=>fun g1=>fun g2=>⟨gives (v_oright o),fun h1=>⟨fun h2=>have h2:¬ n.o=o.i:=(by simpa using h2)
(by rw [take_1 (.inr (.inr h2))]<;>rfl),
 fun h2=>have h2:n.o=o.i:=(by simpa using h2)
⟨gives (v_ofnote n),⟨l_rec (nt_fine hn),fun h3=>⟨gives (v_can o n (sub_in ho h1)),fun h4=>⟨gives (v_told o n (order.told_in h1 h3 h4 ho)),(by rw [order.take_can h1 h3 h2,if_pos h4]<;>rfl)⟩,
 fun h4=>(by rw [order.take_can h1 h3 h2,if_neg (by rw [h4];decide)]<;>rfl)⟩,
 fun h3=>(by rw [take_1 (.inr (.inl h3))]<;>rfl)⟩⟩⟩,
 fun h1=>(by rw [take_1 (.inl h1)]<;>rfl)⟩)
theorem v_begin (r:Rc)  (hr:r.fine) (w:World):Calls Try.prog 24 #[.agg (rec.rc r)] w fun e w'=>e = .returned (.tuple #[.agg (order.oc (order.begin_ r).1),.int .i64 (order.begin_ r).2])∧Below w.heap.size w w' :=
 calls_by (fn:=Try.f24) (r:=.tuple #[.agg (order.oc (order.begin_ r).1),.int .i64 (order.begin_ r).2]) (t:=.s (.k .z) (.k (.cs (rec.right r) .z .z))) (X :=
 let k1:Array Value:=#[.agg (order.oc (order.begin_ r).1),.int .i64 (order.begin_ r).2];let k0:=(.tuple #[.agg #[.int .i64 0,.int .i64 0,.int .i64 0,.int .i64 0,.int .i64 0,.int .i64 0,.int .i64 0,.int .i64 0,.int .i64 0,.int .i64 0,.int .i64 0,.bool false],.int .i64 1]:Value) = .tuple k1; ∀ g0:Nat,∀ g1:Nat,((!decide (r.k=1))=true→k0)∧((!decide (r.k=1))=false→Gives Try.prog w [] 42 #[.agg (rec.rc r)] (.bool (rec.right r))∧((rec.right r)=true→((.tuple #[.agg #[.int .i64 r.o,.int .i64 r.a,.int .i64 r.y,.int .i64 r.d,.int .i64 r.q,.int .i64 r.p,.int .i64 0,.int .i64 1,.int .i64 0,.int .i64 0,.int .i64 0,.bool false],.int .i64 0]:Value) = .tuple k1))∧((rec.right r)=false→k0))) Try.func24 (by kernel_rfl)
 (fun g0=>fun g1=>⟨fun h1=>have h1:¬ r.k=1:=(by simpa using h1)
(by rw [begin_no (fun h=>h1 h.1)]<;>rfl),
 fun h1=>have h1:r.k=1:=(by simpa using h1)
⟨l_rec hr,fun h2=>(by rw [begin_yes ⟨h1,h2⟩]<;>rfl),
 fun h2=>(by rw [begin_no (fun h=>by have:=h.2;rw [h2] at this;cases this)]<;>rfl)⟩⟩)
theorem v_change (o:Or) (x z:Int)  (ho:o.fine) (w:World):Calls Try.prog 25 #[.agg (order.oc o),.int .i64 x,.int .i64 z] w fun e w'=>e = .returned (.tuple #[.agg (order.oc (order.change o x z).1),.int .i64 (order.change o x z).2])∧Below w.heap.size w w' :=
 calls_by (fn:=Try.f25) (r:=.tuple #[.agg (order.oc (order.change o x z).1),.int .i64 (order.change o x z).2]) (t:=.c (.tuple #[.int .i64 (addV o.v 1),.int .i64 (addE o.v 1)]) (.cs (order.right o) (.k (.s (.k (.k .z)) (.k (.s (.k .z) (.k (.s .z (.s (.k (.k .z)) (.k (.cs (order.pend o.m) (.k .z) (.k (.s .z .z))))))))))) (.k (.k (.k .z))))) (X :=
 let k0:Array Value:=#[.agg (order.oc (order.change o x z).1),.int .i64 (order.change o x z).2];let k1:=(.tuple #[.agg (order.oc o),.int .i64 1]:Value) = .tuple k0;let k2:=(.tuple #[.agg (order.oc o),.int .i64 8]:Value) = .tuple k0;let k3:=order.pend o.m;let k4:=order.right o;let k5 := !decide ((addE o.v 1)=0); ∀ g0:Nat,∀ g1:Nat,Gives Try.prog w [] 43 #[.int .i64 o.v,.int .i64 1] (.tuple #[.int .i64 (addV o.v 1),.int .i64 (addE o.v 1)])∧Gives Try.prog w [] 44 #[.agg (order.oc o)] (.bool k4)∧(k4=true→((decide (x < 1))=true→k1)∧((decide (x < 1))=false→((decide (z < 1))=true→k1)∧((decide (z < 1))=false→(k5=true→k1)∧(k5=false→((!decide (o.h=2))=true→k2)∧((!decide (o.h=2))=false→Gives Try.prog w [] 45 #[.agg (order.oc o)] (.bool k3)∧(k3=true→k2)∧(k3=false→(o.g=true→k2)∧(o.g=false→((.tuple #[.agg #[.int .i64 o.i,.int .i64 o.a,.int .i64 o.y,.int .i64 o.d,.int .i64 o.q,.int .i64 o.p,.int .i64 o.f,.int .i64 o.h,.int .i64 x,.int .i64 z,.int .i64 (addV o.v 1),.bool o.g],.int .i64 0]:Value) = .tuple k0))))))))∧(k4=false→k1)) Try.func25 (by kernel_rfl)
 (fun g0=>fun g1=>⟨n_add ho.2.2.2.2.2.2.2.2.2.2 (by unfold inI;omega),⟨gives (v_oright o),fun h1=>⟨fun h2=>have h2:x < 1:=(by simpa using h2)
(by rw [change_1 (.inr (.inl h2))]<;>rfl),
 fun h2=>have h2:¬ x < 1:=(by simpa using h2)
⟨fun h3=>have h3:z < 1:=(by simpa using h3)
(by rw [change_1 (.inr (.inr (.inl h3)))]<;>rfl),
 fun h3=>have h3:¬ z < 1:=(by simpa using h3)
⟨fun h4=>have h4:¬ (addE o.v 1)=0:=(by simpa using h4)
(by rw [change_1 (.inr (.inr (.inr (v_most ho h4))))]<;>rfl),
 fun h4=>have h4:(addE o.v 1)=0:=(by simpa using h4)
⟨fun h5=>have h5:¬ o.h=2:=(by simpa using h5)
(by rw [change_8 (fun e=>by rcases e with e | e | e | e;exact absurd e (by rw [h1];decide);omega;omega;exact v_less h4 e) (.inl h5)]<;>rfl),
 fun h5=>have h5:o.h=2:=(by simpa using h5)
⟨gives (v_pend o),fun h6=>(by rw [change_8 (fun e=>by rcases e with e | e | e | e;exact absurd e (by rw [h1];decide);omega;omega;exact v_less h4 e) (.inr (.inl (of_decide_eq_true h6)))]<;>rfl),
 fun h6=>⟨fun h7=>(by rw [change_8 (fun e=>by rcases e with e | e | e | e;exact absurd e (by rw [h1];decide);omega;omega;exact v_less h4 e) (.inr (.inr h7))]<;>rfl),
 fun h7=>(by rw [v_addV h4,change_0 (fun e=>by rcases e with e | e | e | e;exact absurd e (by rw [h1];decide);omega;omega;exact v_less h4 e) h5 (Decidable.not_not.1 (of_decide_eq_false h6)) h7]<;>rfl)⟩⟩⟩⟩⟩⟩,
 fun h1=>(by rw [change_1 (.inl h1)]<;>rfl)⟩⟩)
theorem v_open (o:Or)  (ho:o.fine) (w:World):Calls Try.prog 57 #[.agg (order.oc o)] w fun e w'=>e = .returned (.int .i64 (open_ o))∧Below w.heap.size w w' :=
 calls_by (fn:=Try.f57) (r:=.int .i64 (open_ o)) (t:=.cs (order.right o) (.k (.s .z (.o [] (.c (.int .i64 (max o.q o.m)) (.e (.int .i64 ((max o.q o.m) - o.f)) .z))))) (.k .z)) (X :=
 let k0:=(.int .i64 0:Value) = .int .i64 (open_ o);let k1:=(max o.q o.m) - o.f;let k2:=order.right o; ∀ g0:Nat,Gives Try.prog w [] 44 #[.agg (order.oc o)] (.bool k2)∧(k2=true→((decide (o.h=3))=true→k0)∧((decide (o.h=3))=false→Gives Try.prog w [] 68 #[.int .i64 o.q,.int .i64 o.m] (.int .i64 (max o.q o.m))∧(.int .i64 (IntKind.i64.wrap k1):Value) = .int .i64 k1∧((.int .i64 k1:Value) = .int .i64 (open_ o))))∧(k2=false→k0)) Try.func57 (by kernel_rfl)
 (fun g0=>⟨gives (v_oright o),fun h1=>⟨fun h2=>have h2:o.h=3:=(by simpa using h2)
(by rw [open_0 (.inr h2)]),
 fun h2=>have h2:¬ o.h=3:=(by simpa using h2)
⟨n_max ho.2.2.2.2.1 ho.2.2.2.2.2.2.2.2.1,⟨wrap_is rfl (by have:=o_rng ho h1;omega) (by have:=o_rng ho h1;omega),(by rw [open_1 h1 h2])⟩⟩⟩,
 fun h1=>(by rw [open_0 (.inl h1)])⟩)
end Go.Proofs.Ytcpahggkioagkaa.book
