/-
  z08
-/
import Derived.Test.YtbbjlfbemibfcaaGreatMrr21
import Derived.Test.YtbbjlfbemibfcaaGreatMrr25
import Derived.Test.YtbbjlfbemibfcaaGreatMrr13
import Derived.Test.YtbbjlfbemibfcaaGreatMrr12
set_option linter.unusedVariables false
set_option linter.unusedSimpArgs false
namespace Go.Proofs.YtbbjlfbemibfcaaGreat.order
open Go.RowKit Go.Proofs.YtbbjlfbemibfcaaGreat
def Yx (i a y d:Int):Bool:=decide (1≤i∧i≤1000000000000∧0≤a∧a < 8∧0≤y∧y < 8∧(d=1∨d=2))
def Yy (q p f v:Int):Bool:=decide (1≤q∧1≤p∧0≤f∧f≤q∧0≤v)
def Xo (m r:Int):Bool:=decide ((m=0∧r=0)∨(1≤m∧1≤r))
def pend (m:Int):Bool:=decide (m≠0)
def Yz (q f ph m v:Int):Bool:=decide ((ph=1∧f=0∧v=0∧m=0)∨(ph=2∧f < q)∨(ph=3∧m=0))
theorem lq (o:Or):right o=(Yx o.i o.a o.y o.d && Yy o.q o.p o.f o.v && Xo o.m o.r && Yz o.q o.f o.h o.m o.v):=by
 rw [Bool.eq_iff_iff,dh]
 unfold aj Yx Yy Xo Yz
 simp only [Bool.and_eq_true,decide_eq_true_eq]
 omega
def can (o:Or) (n:Nt):Bool:=decide (((n.t=1∨n.t=2)∧o.h=1)∨(n.t=3∧o.h=2∧n.q≤o.q - o.f)∨(n.t=4∧o.h=2)∨(n.t=5∧o.h=2∧o.m≠0∧n.q=o.m∧n.p=o.r∧o.f < n.q)∨(n.t=6∧o.h=2∧o.m≠0))
def told (o:Or) (n:Nt):Or:=if n.t=1 then { o with h:=2 } else if n.t=2∨n.t=4 then done o else if n.t=3 then (if o.f+n.q=o.q then done { o with f:=o.f+n.q } else { o with f:=o.f+n.q }) else if n.t=5 then { o with q:=n.q,p:=n.p,m:=0,r:=0 } else if n.t=6 then { o with m:=0,r:=0 } else o
theorem qs0 {o:Or} {n:Nt} (h1:right o=true) (h2:Lh n=true) (h3:n.o=o.i):take o n=if can o n=true then (told o n,0) else (o,8):=by
 have hr:=dh.1 h1
 have hn:=(Xb.1 h2).2.2
 unfold take
 rw [h1,h2,if_neg (by simp [h3])]
 obtain ⟨i,a,y,d,q,p,f,ph,m,r,v,g⟩:=o
 obtain ⟨zN,tN,oN,qN,pN⟩:=n
 unfold aj at hr
 simp only at hr hn h3
 by_cases t1:tN=1
 ·subst t1
  by_cases hp:ph=1<;>simp [can,told,hp]
 by_cases t2:tN=2
 ·subst t2
  by_cases hp:ph=1<;>simp [can,told,hp]
 by_cases t3:tN=3
 ·subst t3
  have hq:=(qih hn).1
  by_cases hp:ph=2
  ·subst hp
   by_cases hl:qN≤q - f
   ·by_cases he:f+qN=q
    ·simp [can,told,hl,he,show ¬ qN < q - f by omega]
    ·simp [can,told,hl,he,show qN < q - f by omega]
   ·simp [can,told,hl]
  ·simp [can,told,hp]
 by_cases t4:tN=4
 ·subst t4
  by_cases hp:ph=2<;>simp [can,told,hp]
 by_cases t5:tN=5
 ·subst t5
  by_cases hp:ph=2
  ·by_cases hm:m=0
   ·simp [can,told,hp,hm]
   ·have hm' : 0 < m:=by omega
    by_cases hc:qN=m∧pN=r∧f < qN
    ·simp [can,told,hp,hm,hm',hc]
    ·simp [can,told,hp,hm,hm',hc]
  ·simp [can,told,hp]
 by_cases t6:tN=6
 ·subst t6
  by_cases hp:ph=2
  ·by_cases hm:m=0
   ·simp [can,told,hp,hm]
   ·have hm' : 0 < m:=by omega
    simp [can,told,hp,hm,hm']
  ·simp [can,told,hp]
 simp [can,told,t1,t2,t3,t4,t5,t6]
theorem q5r {o:Or} {n:Nt} (hr:right o=true) (hn:Lh n=true) (hc:can o n=true) (hf:o.fine):n.t=3 → -9223372036854775808≤o.f+n.q∧o.f+n.q≤9223372036854775807:=fun ht=>by
 have h1:=dh.1 hr
 have h2:=(Xb.1 hn).2.2
 rw [ht] at h2
 have h3:=(qih h2).1
 have h4:=hf.2.2.2.2.1
 unfold frame.jh at h4
 unfold aj at h1
 simp only [can,ht,decide_eq_true_eq] at hc
 omega
def nc (n:Nt):Array Value:=#[.int .i64 n.z,.int .i64 n.t,.int .i64 n.o,.int .i64 n.q,.int .i64 n.p]
end Go.Proofs.YtbbjlfbemibfcaaGreat.order
namespace Go.Proofs.YtbbjlfbemibfcaaGreat.book
open Go.RowKit Go.Proofs.YtbbjlfbemibfcaaGreat
open Go.Proofs.YtbbjlfbemibfcaaGreat.order (Or open_ worth oz)
open Go.Proofs.YtbbjlfbemibfcaaGreat.rec (Rc)
set_option maxRecDepth 20000
theorem q5s {n:order.Nt} (hn:frame.jh n.z∧frame.jh n.t∧frame.jh n.o∧frame.jh n.q∧frame.jh n.p):n.rc.fine:=by
 obtain ⟨h1,h2,h3,h4,h5⟩:=hn
 unfold order.Nt.rc Rc.fine
 unfold frame.jh at *
 dsimp only
 refine ⟨by omega,h3,by omega,by omega,by omega,h4,h5,by omega,by omega,by omega,h1,h2⟩
theorem q8b {o:Or} (ho:o.fine) (h:order.right o=true) : -9223372036854775808≤o.q - o.f∧o.q - o.f≤9223372036854775807:=by
 have:=order.dh.1 h
 have h2:=ho.2.2.2.2.1
 unfold order.aj at this
 unfold frame.jh at h2
 omega
theorem qs1 {o:Or} {n:order.Nt} (h:order.right o=false∨order.Lh n=false∨¬ n.o=o.i):order.take o n=(o,1):=if_pos h
theorem qzr {r:Rc} (h:r.k=1∧rec.right r=true):order.jl r=(⟨r.o,r.a,r.y,r.d,r.q,r.p,0,1,0,0,0,false⟩,0):=if_pos h
theorem qs2 {r:Rc} (h:¬ (r.k=1∧rec.right r=true)):order.jl r=(oz,1):=if_neg h
theorem qle {o:Or} {x z:Int} (h:order.right o=false∨x < 1∨z < 1∨o.v=9223372036854775807):order.change o x z=(o,1):=if_pos h
theorem qn5 {o:Or} {x z:Int} (h:¬ (order.right o=false∨x < 1∨z < 1∨o.v=9223372036854775807)) (h2:¬ o.h=2∨o.m≠0∨o.g=true):order.change o x z=(o,8):=by unfold order.change;rw [if_neg h,if_pos h2]
theorem q2k {o:Or} {x z:Int} (h:¬ (order.right o=false∨x < 1∨z < 1∨o.v=9223372036854775807)) (h2:o.h=2) (h3:o.m=0) (h4:o.g=false):order.change o x z=({ o with m:=x,r:=z,v:=o.v+1 },0):=by unfold order.change;rw [if_neg h,if_neg (by rw [h4];simp [h2,h3])]
theorem q8c {o:Or} (ho:o.fine) (h:¬ oh o.v 1=0):o.v=9223372036854775807:=by
 have:=ho.2.2.2.2.2.2.2.2.2.2
 unfold frame.jh at this
 exact Decidable.byContradiction fun e=>h (Nz.2 (by unfold jq;omega))
theorem qo5 {o:Or} (h:oh o.v 1=0) (e:o.v=9223372036854775807):False:=by
 have:=Nz.1 h
 unfold jq at this
 omega
theorem q8d {o:Or} (h:oh o.v 1=0):mg o.v 1=o.v+1:=by
 unfold oh at h
 unfold mg
 split at h
 ·rename_i g;exact if_pos g
 ·cases h
theorem N7 {o:Or} (ho:o.fine) (h:order.right o=true):0≤o.f∧o.f≤o.q∧o.q≤9223372036854775807∧0≤o.m∧o.m≤9223372036854775807:=by
 have h1:=order.dh.1 h
 have h2:=ho.2.2.2.2.1
 have h3:=ho.2.2.2.2.2.2.2.2.1
 unfold order.aj at h1
 unfold frame.jh at h2 h3
 omega
theorem qo6 {o:Or} (h:order.right o=false∨o.h=3):open_ o=0:=if_pos h
theorem qs3 {o:Or} (h:order.right o=true) (h2:¬ o.h=3):open_ o=max o.q o.m - o.f:=by
 unfold open_
 rw [if_neg (by rw [h];simp [h2])]
 split<;>omega
theorem Vs {o:Or} (ho:o.fine) (h:order.right o=true):jq (o.q - o.f)∧jq (o.m - o.f):=by
 have:=N7 ho h
 unfold jq;omega
theorem qjp {x y:Int} : order.fits (x * y)=true ↔ zf x y=0:=by
 unfold order.fits
 rw [decide_eq_true_eq]
 exact qn4.symm
theorem qvf {x y:Int} (h:¬ zf x y=0):zf x y=3:=by
 unfold zf at *
 split at h
 ·exact absurd rfl h
 ·rename_i g;exact if_neg g
theorem q5t {x y:Int} (h:¬ zf x y=0):D6 x y=0:=by
 unfold zf at h
 unfold D6
 split at h
 ·exact absurd rfl h
 ·rename_i g;exact if_neg g
theorem Xp {x y:Int} (h:zf x y=0):D6 x y=x * y:=by
 unfold zf at h
 unfold D6
 split at h
 ·rename_i g;exact if_pos g
 ·cases h
theorem qvg {x y:Int} (h:¬ zf x y=0):order.fits (x * y)=false:=by
 cases e:order.fits (x * y) with
 |false=>rfl
 |true=>exact absurd (qjp.1 e) h
section
variable {o:Or}
theorem qvh (h:order.right o=false):worth o=(0,1):=if_pos h
theorem qvi (h:order.right o=true) (h2:o.h=3):worth o=(0,0):=by unfold worth;rw [if_neg (by rw [h];decide),if_pos h2]
theorem qvj (h:order.right o=true) (h2:¬ o.h=3) (h3:¬ zf (o.q - o.f) o.p=0):worth o=(0,3):=by unfold worth;rw [if_neg (by rw [h];decide),if_neg h2,if_pos (qvg h3)]
theorem qvk (h:order.right o=true) (h2:¬ o.h=3) (h3:zf (o.q - o.f) o.p=0) (h4:¬ o.f < o.m):worth o=(D6 (o.q - o.f) o.p,0):=by unfold worth;rw [if_neg (by rw [h];decide),if_neg h2,if_neg (by rw [qjp.2 h3];decide),if_neg h4,Xp h3]
theorem qvl (h:order.right o=true) (h2:¬ o.h=3) (h3:zf (o.q - o.f) o.p=0) (h4:o.f < o.m) (h5:¬ zf (o.m - o.f) o.r=0):worth o=(0,3):=by unfold worth;rw [if_neg (by rw [h];decide),if_neg h2,if_neg (by rw [qjp.2 h3];decide),if_pos h4,if_pos (qvg h5)]
theorem qp0 (h:order.right o=true) (h2:¬ o.h=3) (h3:zf (o.q - o.f) o.p=0) (h4:o.f < o.m) (h5:zf (o.m - o.f) o.r=0):worth o=(max (D6 (o.q - o.f) o.p) (D6 (o.m - o.f) o.r),0):=by
 unfold worth
 rw [if_neg (by rw [h];decide),if_neg h2,if_neg (by rw [qjp.2 h3];decide),if_pos h4,if_neg (by rw [qjp.2 h5];decide),Xp h3,Xp h5]
 split<;>congr 1<;>omega
end
theorem q5u (o:Or)  (w:World):Calls Tryz.prog 89 #[.agg (order.oc o)] w fun e w'=>e = .returned (.bool (order.Yx o.i o.a o.y o.d))∧Below w.heap.size w w' :=
 uw (fn:=Tryz.f89) (r:=.bool (order.Yx o.i o.a o.y o.d)) (t:=.s (.k (.s (.k (.s (.k (.s (.k (.s (.k (.s (.k (.s (.k .z) (.k (.s .z .z)))) (.k .z))) (.k (.k .z)))) (.k (.k (.k .z))))) (.k (.k (.k (.k .z)))))) (.k (.k (.k (.k (.k .z))))))) (.k (.k (.k (.k (.k (.k .z))))))) (X :=
 let k3:=order.Yx o.i o.a o.y o.d;let k0:=(.bool false:Value) = .bool k3;let k1:=(.bool true:Value) = .bool k3;let k2:=decide (o.i≤1000000000000); ∀ g0:Nat,((decide (o.i ≥ 1))=true→(k2=true→((decide (o.a ≥ 0))=true→((decide (o.a < 8))=true→((decide (o.y ≥ 0))=true→((decide (o.y < 8))=true→((decide (o.d=1))=true→k1)∧((decide (o.d=1))=false→((decide (o.d=2))=true→k1)∧((decide (o.d=2))=false→k0)))∧((decide (o.y < 8))=false→k0))∧((decide (o.y ≥ 0))=false→k0))∧((decide (o.a < 8))=false→k0))∧((decide (o.a ≥ 0))=false→k0))∧(k2=false→k0))∧((decide (o.i ≥ 1))=false→k0)) Tryz.func89 (by kernel_rfl)
 (fun g0=>⟨fun h1=>have h1:¬ o.i < 1:=(by simpa using h1)
⟨fun h2=>have h2:¬ 1000000000000 < o.i:=(by simpa using h2)
⟨fun h3=>have h3:¬ o.a < 0:=(by simpa using h3)
⟨fun h4=>have h4:o.a < 8:=(by simpa using h4)
⟨fun h5=>have h5:¬ o.y < 0:=(by simpa using h5)
⟨fun h6=>have h6:o.y < 8:=(by simpa using h6)
⟨fun h7=>have h7:o.d=1:=(by simpa using h7)
(vt (by omega)),
 fun h7=>have h7:¬ o.d=1:=(by simpa using h7)
⟨fun h8=>have h8:o.d=2:=(by simpa using h8)
(vt (by omega)),
 fun h8=>have h8:¬ o.d=2:=(by simpa using h8)
(vf (by omega))⟩⟩,
 fun h6=>have h6:¬ o.y < 8:=(by simpa using h6)
(vf (by omega))⟩,
 fun h5=>have h5:o.y < 0:=(by simpa using h5)
(vf (by omega))⟩,
 fun h4=>have h4:¬ o.a < 8:=(by simpa using h4)
(vf (by omega))⟩,
 fun h3=>have h3:o.a < 0:=(by simpa using h3)
(vf (by omega))⟩,
 fun h2=>have h2:1000000000000 < o.i:=(by simpa using h2)
(vf (by omega))⟩,
 fun h1=>have h1:o.i < 1:=(by simpa using h1)
(vf (by omega))⟩)
theorem q2l (o:Or)  (w:World):Calls Tryz.prog 90 #[.agg (order.oc o)] w fun e w'=>e = .returned (.bool (order.Yy o.q o.p o.f o.v))∧Below w.heap.size w w' :=
 uw (fn:=Tryz.f90) (r:=.bool (order.Yy o.q o.p o.f o.v)) (t:=.s (.k (.s (.k (.s (.k (.s (.k (.s .z .z)) (.k .z))) (.k (.k .z)))) (.k (.k (.k .z))))) (.k (.k (.k (.k .z))))) (X :=
 let k1:=order.Yy o.q o.p o.f o.v;let k0:=(.bool false:Value) = .bool k1; ∀ g0:Nat,((decide (o.q ≥ 1))=true→((decide (o.p ≥ 1))=true→((decide (o.f ≥ 0))=true→((decide (o.f≤o.q))=true→((decide (o.v ≥ 0))=true→((.bool true:Value) = .bool k1))∧((decide (o.v ≥ 0))=false→k0))∧((decide (o.f≤o.q))=false→k0))∧((decide (o.f ≥ 0))=false→k0))∧((decide (o.p ≥ 1))=false→k0))∧((decide (o.q ≥ 1))=false→k0)) Tryz.func90 (by kernel_rfl)
 (fun g0=>⟨fun h1=>have h1:¬ o.q < 1:=(by simpa using h1)
⟨fun h2=>have h2:¬ o.p < 1:=(by simpa using h2)
⟨fun h3=>have h3:¬ o.f < 0:=(by simpa using h3)
⟨fun h4=>have h4:¬ o.q < o.f:=(by simpa using h4)
⟨fun h5=>have h5:¬ o.v < 0:=(by simpa using h5)
(vt (by omega)),
 fun h5=>have h5:o.v < 0:=(by simpa using h5)
(vf (by omega))⟩,
 fun h4=>have h4:o.q < o.f:=(by simpa using h4)
(vf (by omega))⟩,
 fun h3=>have h3:o.f < 0:=(by simpa using h3)
(vf (by omega))⟩,
 fun h2=>have h2:o.p < 1:=(by simpa using h2)
(vf (by omega))⟩,
 fun h1=>have h1:o.q < 1:=(by simpa using h1)
(vf (by omega))⟩)
theorem q5v (o:Or)  (w:World):Calls Tryz.prog 91 #[.agg (order.oc o)] w fun e w'=>e = .returned (.bool (order.Xo o.m o.r))∧Below w.heap.size w w' :=
 uw (fn:=Tryz.f91) (r:=.bool (order.Xo o.m o.r)) (t:=.s (.k (.s (.k .z) (.k (.m false (.k .z))))) (.k (.k (.s (.k (.s .z .z)) (.k .z))))) (X :=
 let k0:=(.bool false:Value) = .bool (order.Xo o.m o.r);let k1:=(.bool true:Value) = .bool (order.Xo o.m o.r);let k2:=decide (o.m ≥ 1); ∀ g0:Nat,((decide (o.m=0))=true→((decide (o.r=0))=true→k1)∧((decide (o.r=0))=false→k2=false∧k0))∧((decide (o.m=0))=false→(k2=true→((decide (o.r ≥ 1))=true→k1)∧((decide (o.r ≥ 1))=false→k0))∧(k2=false→k0))) Tryz.func91 (by kernel_rfl)
 (fun g0=>⟨fun h1=>have h1:o.m=0:=(by simpa using h1)
⟨fun h2=>have h2:o.r=0:=(by simpa using h2)
(vt (by omega)),
 fun h2=>have h2:¬ o.r=0:=(by simpa using h2)
⟨by simp only [dq];omega,(vf (by omega))⟩⟩,
 fun h1=>have h1:¬ o.m=0:=(by simpa using h1)
⟨fun h3=>have h3:¬ o.m < 1:=(by simpa using h3)
⟨fun h4=>have h4:¬ o.r < 1:=(by simpa using h4)
(vt (by omega)),
 fun h4=>have h4:o.r < 1:=(by simpa using h4)
(vf (by omega))⟩,
 fun h3=>have h3:o.m < 1:=(by simpa using h3)
(vf (by omega))⟩⟩)
theorem qmc (o:Or)  (w:World):Calls Tryz.prog 114 #[.agg (order.oc o)] w fun e w'=>e = .returned (.bool (order.pend o.m))∧Below w.heap.size w w' :=
 uw (fn:=Tryz.f114) (r:=.bool (order.pend o.m)) (t:=.s .z .z) (X :=
∀ g0:Nat,((!decide (o.m=0))=true→((.bool true:Value) = .bool (order.pend o.m)))∧((!decide (o.m=0))=false→((.bool false:Value) = .bool (order.pend o.m)))) Tryz.func114 (by kernel_rfl)
 (fun g0=>⟨fun h1=>have h1:¬ o.m=0:=(by simpa using h1)
(vt (by omega)),
 fun h1=>have h1:o.m=0:=(by simpa using h1)
(vf (by omega))⟩)
theorem q2m (o:Or)  (w:World):Calls Tryz.prog 92 #[.agg (order.oc o)] w fun e w'=>e = .returned (.bool (order.Yz o.q o.f o.h o.m o.v))∧Below w.heap.size w w' :=
 uw (fn:=Tryz.f92) (r:=.bool (order.Yz o.q o.f o.h o.m o.v)) (t:=.s (.s (.k (.s (.k (.cs (order.pend o.m) .z .z)) (.k .z))) (.k (.k .z))) (.s (.s .z .z) (.s (.cs (order.pend o.m) .z .z) .z))) (X :=
 let k3:=order.Yz o.q o.f o.h o.m o.v;let k0:=(.bool false:Value) = .bool k3;let k1:=(.bool true:Value) = .bool k3;let k2:=order.pend o.m; ∀ g0:Nat,((decide (o.h=1))=true→((decide (o.f=0))=true→((decide (o.v=0))=true→iq Tryz.prog w [] 114 #[.agg (order.oc o)] (.bool k2)∧(k2=true→k0)∧(k2=false→k1))∧((decide (o.v=0))=false→k0))∧((decide (o.f=0))=false→k0))∧((decide (o.h=1))=false→((decide (o.h=2))=true→((decide (o.f < o.q))=true→k1)∧((decide (o.f < o.q))=false→k0))∧((decide (o.h=2))=false→((decide (o.h=3))=true→iq Tryz.prog w [] 114 #[.agg (order.oc o)] (.bool k2)∧(k2=true→k0)∧(k2=false→k1))∧((decide (o.h=3))=false→k0)))) Tryz.func92 (by kernel_rfl)
 (fun g0=>⟨fun h1=>have h1:o.h=1:=(by simpa using h1)
⟨fun h2=>have h2:o.f=0:=(by simpa using h2)
⟨fun h3=>have h3:o.v=0:=(by simpa using h3)
⟨gives (qmc o),fun h4=>(vf (by have eh4:=of_decide_eq_true h4;omega)),
 fun h4=>(vt (by have eh4:=of_decide_eq_false h4;omega))⟩,
 fun h3=>have h3:¬ o.v=0:=(by simpa using h3)
(vf (by omega))⟩,
 fun h2=>have h2:¬ o.f=0:=(by simpa using h2)
(vf (by omega))⟩,
 fun h1=>have h1:¬ o.h=1:=(by simpa using h1)
⟨fun h5=>have h5:o.h=2:=(by simpa using h5)
⟨fun h6=>have h6:o.f < o.q:=(by simpa using h6)
(vt (by omega)),
 fun h6=>have h6:¬ o.f < o.q:=(by simpa using h6)
(vf (by omega))⟩,
 fun h5=>have h5:¬ o.h=2:=(by simpa using h5)
⟨fun h7=>have h7:o.h=3:=(by simpa using h7)
⟨gives (qmc o),fun h8=>(vf (by have eh8:=of_decide_eq_true h8;omega)),
 fun h8=>(vt (by have eh8:=of_decide_eq_false h8;omega))⟩,
 fun h7=>have h7:¬ o.h=3:=(by simpa using h7)
(vf (by omega))⟩⟩⟩)
theorem qhx (o:Or)  (w:World):Calls Tryz.prog 67 #[.agg (order.oc o)] w fun e w'=>e = .returned (.bool (order.right o))∧Below w.heap.size w w' :=
 uw (fn:=Tryz.f67) (r:=.bool (order.right o)) (t:=.cs (order.Yx o.i o.a o.y o.d) (.k (.cs (order.Yy o.q o.p o.f o.v) (.k (.cs (order.Xo o.m o.r) (.k (.cs (order.Yz o.q o.f o.h o.m o.v) .z .z)) (.k .z))) (.k (.k .z)))) (.k (.k (.k .z)))) (X :=
 let k0:=(.bool false:Value) = .bool (order.right o);let k1:=order.Yz o.q o.f o.h o.m o.v;let k2:=order.Yy o.q o.p o.f o.v;let k3:=order.Yx o.i o.a o.y o.d;let k4:Array Value:=#[.agg (order.oc o)];let k5:=order.Xo o.m o.r; ∀ g0:Nat,iq Tryz.prog w [] 89 k4 (.bool k3)∧(k3=true→iq Tryz.prog w [] 90 k4 (.bool k2)∧(k2=true→iq Tryz.prog w [] 91 k4 (.bool k5)∧(k5=true→iq Tryz.prog w [] 92 k4 (.bool k1)∧(k1=true→((.bool true:Value) = .bool (order.right o)))∧(k1=false→k0))∧(k5=false→k0))∧(k2=false→k0))∧(k3=false→k0)) Tryz.func67 (by kernel_rfl)
 (fun g0=>⟨gives (q5u o),fun h1=>⟨gives (q2l o),fun h2=>⟨gives (q5v o),fun h3=>⟨gives (q2m o),fun h4=>(by rw [order.lq,h1,h2,h3,h4];rfl),
 fun h4=>(by rw [order.lq,h1,h2,h3,h4];rfl)⟩,
 fun h3=>(by rw [order.lq,h1,h2,h3];rfl)⟩,
 fun h2=>(by rw [order.lq,h1,h2];rfl)⟩,
 fun h1=>(by rw [order.lq,h1];rfl)⟩)
theorem qmd (o:Or)  (w:World):Calls Tryz.prog 136 #[.agg (order.oc o)] w fun e w'=>e = .returned (.agg (order.oc { o with m:=0,r:=0 }))∧Below w.heap.size w w' :=
 uw (fn:=Tryz.f136) (r:=.agg (order.oc { o with m:=0,r:=0 })) (t:=.z) (X :=
∀ g0:Nat,∀ g1:Nat,((.agg #[.int .i64 o.i,.int .i64 o.a,.int .i64 o.y,.int .i64 o.d,.int .i64 o.q,.int .i64 o.p,.int .i64 o.f,.int .i64 o.h,.int .i64 0,.int .i64 0,.int .i64 o.v,.bool o.g]:Value) = .agg (order.oc { o with m:=0,r:=0 }))) Tryz.func136 (by kernel_rfl)
 (fun g0=>fun g1=>rfl)
theorem qs4 (o:Or)  (w:World):Calls Tryz.prog 135 #[.agg (order.oc o)] w fun e w'=>e = .returned (.agg (order.oc (order.done o)))∧Below w.heap.size w w' :=
 uw (fn:=Tryz.f135) (r:=.agg (order.oc (order.done o))) (t:=.c (.agg #[.int .i64 o.i,.int .i64 o.a,.int .i64 o.y,.int .i64 o.d,.int .i64 o.q,.int .i64 o.p,.int .i64 o.f,.int .i64 3,.int .i64 0,.int .i64 0,.int .i64 o.v,.bool o.g]) .z) (X :=
 let k0:Array Value:=#[.int .i64 o.i,.int .i64 o.a,.int .i64 o.y,.int .i64 o.d,.int .i64 o.q,.int .i64 o.p,.int .i64 o.f,.int .i64 3,.int .i64 0,.int .i64 0,.int .i64 o.v,.bool o.g]; ∀ g0:Nat,∀ g1:Nat,iq Tryz.prog w [] 136 #[.agg #[.int .i64 o.i,.int .i64 o.a,.int .i64 o.y,.int .i64 o.d,.int .i64 o.q,.int .i64 o.p,.int .i64 o.f,.int .i64 3,.int .i64 o.m,.int .i64 o.r,.int .i64 o.v,.bool o.g]] (.agg k0)∧((.agg k0:Value) = .agg (order.oc (order.done o)))) Tryz.func135 (by kernel_rfl)
 (fun g0=>fun g1=>⟨gives (qmd (⟨o.i,o.a,o.y,o.d,o.q,o.p,o.f,3,o.m,o.r,o.v,o.g⟩)),rfl⟩)
theorem q9y (o:Or) (n:order.Nt)  (hi : -9223372036854775808≤o.q - o.f∧o.q - o.f≤9223372036854775807) (w:World):Calls Tryz.prog 130 #[.agg (order.oc o),.agg (order.nc n)] w fun e w'=>e = .returned (.bool (order.can o n))∧Below w.heap.size w w' :=
 uw (fn:=Tryz.f130) (r:=.bool (order.can o n)) (t:=.s (.s .z .z) (.s (.s .z .z) (.s (.s (.k (.e (.int .i64 (o.q - o.f)) (.s .z .z))) (.k .z)) (.s (.s .z .z) (.s (.s (.k (.cs (order.pend o.m) (.k (.s (.k (.s (.k (.s .z .z)) (.k .z))) (.k (.k .z)))) (.k (.k (.k .z))))) (.k (.k (.k (.k .z))))) (.s (.s (.k (.cs (order.pend o.m) .z .z)) (.k .z)) .z)))))) (X :=
 let k0:=(.bool false:Value) = .bool (order.can o n);let k1:=(.bool true:Value) = .bool (order.can o n);let k2:=decide (o.h=2);let k3:=order.pend o.m;let k4:=decide (o.h=1);let k5:=decide (n.q≤(o.q - o.f)); ∀ g0:Nat,∀ g1:Nat,((decide (n.t=1))=true→(k4=true→k1)∧(k4=false→k0))∧((decide (n.t=1))=false→((decide (n.t=2))=true→(k4=true→k1)∧(k4=false→k0))∧((decide (n.t=2))=false→((decide (n.t=3))=true→(k2=true→(.int .i64 (IntKind.i64.wrap (o.q - o.f)):Value) = .int .i64 (o.q - o.f)∧(k5=true→k1)∧(k5=false→k0))∧(k2=false→k0))∧((decide (n.t=3))=false→((decide (n.t=4))=true→(k2=true→k1)∧(k2=false→k0))∧((decide (n.t=4))=false→((decide (n.t=5))=true→(k2=true→iq Tryz.prog w [] 114 #[.agg (order.oc o)] (.bool k3)∧(k3=true→((decide (n.q=o.m))=true→((decide (n.p=o.r))=true→((decide (n.q > o.f))=true→k1)∧((decide (n.q > o.f))=false→k0))∧((decide (n.p=o.r))=false→k0))∧((decide (n.q=o.m))=false→k0))∧(k3=false→k0))∧(k2=false→k0))∧((decide (n.t=5))=false→((decide (n.t=6))=true→(k2=true→iq Tryz.prog w [] 114 #[.agg (order.oc o)] (.bool k3)∧(k3=true→k1)∧(k3=false→k0))∧(k2=false→k0))∧((decide (n.t=6))=false→k0))))))) Tryz.func130 (by kernel_rfl)
 (fun g0=>fun g1=>⟨fun h1=>have h1:n.t=1:=(by simpa using h1)
⟨fun h2=>have h2:o.h=1:=(by simpa using h2)
(vt (by omega)),
 fun h2=>have h2:¬ o.h=1:=(by simpa using h2)
(vf (by omega))⟩,
 fun h1=>have h1:¬ n.t=1:=(by simpa using h1)
⟨fun h3=>have h3:n.t=2:=(by simpa using h3)
⟨fun h4=>have h4:o.h=1:=(by simpa using h4)
(vt (by omega)),
 fun h4=>have h4:¬ o.h=1:=(by simpa using h4)
(vf (by omega))⟩,
 fun h3=>have h3:¬ n.t=2:=(by simpa using h3)
⟨fun h5=>have h5:n.t=3:=(by simpa using h5)
⟨fun h6=>have h6:o.h=2:=(by simpa using h6)
⟨lg rfl (by omega) (by omega),⟨fun h7=>have h7:¬ (o.q - o.f) < n.q:=(by simpa using h7)
(vt (by omega)),
 fun h7=>have h7:(o.q - o.f) < n.q:=(by simpa using h7)
(vf (by omega))⟩⟩,
 fun h6=>have h6:¬ o.h=2:=(by simpa using h6)
(vf (by omega))⟩,
 fun h5=>have h5:¬ n.t=3:=(by simpa using h5)
⟨fun h8=>have h8:n.t=4:=(by simpa using h8)
⟨fun h9=>have h9:o.h=2:=(by simpa using h9)
(vt (by omega)),
 fun h9=>have h9:¬ o.h=2:=(by simpa using h9)
(vf (by omega))⟩,
 fun h8=>have h8:¬ n.t=4:=(by simpa using h8)
⟨fun h10=>have h10:n.t=5:=(by simpa using h10)
⟨fun h11=>have h11:o.h=2:=(by simpa using h11)
⟨gives (qmc o),fun h12=>⟨fun h13=>have h13:n.q=o.m:=(by simpa using h13)
⟨fun uy=>have uy:n.p=o.r:=(by simpa using uy)
⟨fun h15=>have h15:o.f < n.q:=(by simpa using h15)
(vt (by have Vu:=of_decide_eq_true h12;omega)),
 fun h15=>have h15:¬ o.f < n.q:=(by simpa using h15)
(vf (by have Vu:=of_decide_eq_true h12;omega))⟩,
 fun uy=>have uy:¬ n.p=o.r:=(by simpa using uy)
(vf (by have Vu:=of_decide_eq_true h12;omega))⟩,
 fun h13=>have h13:¬ n.q=o.m:=(by simpa using h13)
(vf (by have Vu:=of_decide_eq_true h12;omega))⟩,
 fun h12=>(vf (by have Vu:=of_decide_eq_false h12;omega))⟩,
 fun h11=>have h11:¬ o.h=2:=(by simpa using h11)
(vf (by omega))⟩,
 fun h10=>have h10:¬ n.t=5:=(by simpa using h10)
⟨fun h16=>have h16:n.t=6:=(by simpa using h16)
⟨fun h17=>have h17:o.h=2:=(by simpa using h17)
⟨gives (qmc o),fun h18=>(vt (by have zkd:=of_decide_eq_true h18;omega)),
 fun h18=>(vf (by have zkd:=of_decide_eq_false h18;omega))⟩,
 fun h17=>have h17:¬ o.h=2:=(by simpa using h17)
(vf (by omega))⟩,
 fun h16=>have h16:¬ n.t=6:=(by simpa using h16)
(vf (by omega))⟩⟩⟩⟩⟩⟩)
theorem q8e (o:Or) (n:order.Nt)  (hi:n.t=3 → -9223372036854775808≤o.f+n.q∧o.f+n.q≤9223372036854775807) (w:World):Calls Tryz.prog 131 #[.agg (order.oc o),.agg (order.nc n)] w fun e w'=>e = .returned (.agg (order.oc (order.told o n)))∧Below w.heap.size w w' :=
 uw (fn:=Tryz.f131) (r:=.agg (order.oc (order.told o n))) (t:=let k0:Value:=.agg #[.int .i64 o.i,.int .i64 o.a,.int .i64 o.y,.int .i64 o.d,.int .i64 o.q,.int .i64 o.p,.int .i64 o.f,.int .i64 3,.int .i64 0,.int .i64 0,.int .i64 o.v,.bool o.g]; .s .z (.s (.c k0 .z) (.s (.c k0 .z) (.s (.e (.int .i64 (o.f+n.q)) (.s (.c (.agg #[.int .i64 o.i,.int .i64 o.a,.int .i64 o.y,.int .i64 o.d,.int .i64 o.q,.int .i64 o.p,.int .i64 (o.f+n.q),.int .i64 3,.int .i64 0,.int .i64 0,.int .i64 o.v,.bool o.g]) .z) .z)) (.s (.o [0] (.c (.agg #[.int .i64 o.i,.int .i64 o.a,.int .i64 o.y,.int .i64 o.d,.int .i64 n.q,.int .i64 n.p,.int .i64 o.f,.int .i64 o.h,.int .i64 0,.int .i64 0,.int .i64 o.v,.bool o.g]) .z)) (.s (.c (.agg #[.int .i64 o.i,.int .i64 o.a,.int .i64 o.y,.int .i64 o.d,.int .i64 o.q,.int .i64 o.p,.int .i64 o.f,.int .i64 o.h,.int .i64 0,.int .i64 0,.int .i64 o.v,.bool o.g]) .z) .z)))))) (X :=
 let k0:Array Value:=#[.int .i64 o.i,.int .i64 o.a,.int .i64 o.y,.int .i64 o.d,.int .i64 o.q,.int .i64 o.p,.int .i64 o.f,.int .i64 3,.int .i64 0,.int .i64 0,.int .i64 o.v,.bool o.g];let k1:=order.oc (order.told o n);let k2:Array Value:=#[.int .i64 o.i,.int .i64 o.a,.int .i64 o.y,.int .i64 o.d,.int .i64 o.q,.int .i64 o.p,.int .i64 (o.f+n.q),.int .i64 o.h,.int .i64 o.m,.int .i64 o.r,.int .i64 o.v,.bool o.g];let k3:Array Value:=#[.int .i64 o.i,.int .i64 o.a,.int .i64 o.y,.int .i64 o.d,.int .i64 o.q,.int .i64 o.p,.int .i64 (o.f+n.q),.int .i64 3,.int .i64 0,.int .i64 0,.int .i64 o.v,.bool o.g];let k4:Array Value:=#[.int .i64 o.i,.int .i64 o.a,.int .i64 o.y,.int .i64 o.d,.int .i64 n.q,.int .i64 n.p,.int .i64 o.f,.int .i64 o.h,.int .i64 0,.int .i64 0,.int .i64 o.v,.bool o.g];let k5:Array Value:=#[.int .i64 o.i,.int .i64 o.a,.int .i64 o.y,.int .i64 o.d,.int .i64 o.q,.int .i64 o.p,.int .i64 o.f,.int .i64 o.h,.int .i64 0,.int .i64 0,.int .i64 o.v,.bool o.g];let k6:=(.agg k0:Value) = .agg k1;let k7:=decide ((o.f+n.q)=o.q);let k8:Array Value:=#[.agg (order.oc o)]; ∀ g0:Nat,∀ g1:Nat,∀ g2:Nat,((decide (n.t=1))=true→((.agg #[.int .i64 o.i,.int .i64 o.a,.int .i64 o.y,.int .i64 o.d,.int .i64 o.q,.int .i64 o.p,.int .i64 o.f,.int .i64 2,.int .i64 o.m,.int .i64 o.r,.int .i64 o.v,.bool o.g]:Value) = .agg k1))∧((decide (n.t=1))=false→((decide (n.t=2))=true→iq Tryz.prog w [] 135 k8 (.agg k0)∧k6)∧((decide (n.t=2))=false→((decide (n.t=4))=true→iq Tryz.prog w [] 135 k8 (.agg k0)∧k6)∧((decide (n.t=4))=false→((decide (n.t=3))=true→(.int .i64 (IntKind.i64.wrap (o.f+n.q)):Value) = .int .i64 (o.f+n.q)∧(k7=true→iq Tryz.prog w [] 135 #[.agg k2] (.agg k3)∧((.agg k3:Value) = .agg k1))∧(k7=false→((.agg k2:Value) = .agg k1)))∧((decide (n.t=3))=false→((decide (n.t=5))=true→iq Tryz.prog w [] 136 #[.agg #[.int .i64 o.i,.int .i64 o.a,.int .i64 o.y,.int .i64 o.d,.int .i64 n.q,.int .i64 n.p,.int .i64 o.f,.int .i64 o.h,.int .i64 o.m,.int .i64 o.r,.int .i64 o.v,.bool o.g]] (.agg k4)∧((.agg k4:Value) = .agg k1))∧((decide (n.t=5))=false→((decide (n.t=6))=true→iq Tryz.prog w [] 136 k8 (.agg k5)∧((.agg k5:Value) = .agg k1))∧((decide (n.t=6))=false→((.agg (order.oc o):Value) = .agg k1)))))))) Tryz.func131 (by kernel_rfl)
 (fun g0=>fun g1=>fun g2=>⟨fun h1=>have h1:n.t=1:=(by simpa using h1)
(by simp [order.told,order.done,order.oc,h1]),
 fun h1=>have h1:¬ n.t=1:=(by simpa using h1)
⟨fun h2=>have h2:n.t=2:=(by simpa using h2)
⟨gives (qs4 o),(by simp [order.told,order.done,order.oc,h1,h2])⟩,
 fun h2=>have h2:¬ n.t=2:=(by simpa using h2)
⟨fun h3=>have h3:n.t=4:=(by simpa using h3)
⟨gives (qs4 o),(by simp [order.told,order.done,order.oc,h1,h2,h3])⟩,
 fun h3=>have h3:¬ n.t=4:=(by simpa using h3)
⟨fun h4=>have h4:n.t=3:=(by simpa using h4)
⟨lg rfl (by omega) (by omega),⟨fun h5=>have h5:(o.f+n.q)=o.q:=(by simpa using h5)
⟨gives (qs4 (⟨o.i,o.a,o.y,o.d,o.q,o.p,(o.f+n.q),o.h,o.m,o.r,o.v,o.g⟩)),(by simp [order.told,order.done,order.oc,h1,h2,h3,h4,h5])⟩,
 fun h5=>have h5:¬ (o.f+n.q)=o.q:=(by simpa using h5)
(by simp [order.told,order.done,order.oc,h1,h2,h3,h4,h5])⟩⟩,
 fun h4=>have h4:¬ n.t=3:=(by simpa using h4)
⟨fun h6=>have h6:n.t=5:=(by simpa using h6)
⟨gives (qmd (⟨o.i,o.a,o.y,o.d,n.q,n.p,o.f,o.h,o.m,o.r,o.v,o.g⟩)),(by simp [order.told,order.done,order.oc,h1,h2,h3,h4,h6])⟩,
 fun h6=>have h6:¬ n.t=5:=(by simpa using h6)
⟨fun h7=>have h7:n.t=6:=(by simpa using h7)
⟨gives (qmd o),(by simp [order.told,order.done,order.oc,h1,h2,h3,h4,h6,h7])⟩,
 fun h7=>have h7:¬ n.t=6:=(by simpa using h7)
(by simp [order.told,order.done,order.oc,h1,h2,h3,h4,h6,h7])⟩⟩⟩⟩⟩⟩)
theorem q2n (n:order.Nt)  (w:World):Calls Tryz.prog 129 #[.agg (order.nc n)] w fun e w'=>e = .returned (.agg (rec.rc n.rc))∧Below w.heap.size w w' :=
 uw (fn:=Tryz.f129) (r:=.agg (rec.rc n.rc)) (t:=.z) (X :=
∀ g0:Nat,∀ g1:Nat,((.agg #[.int .i64 6,.int .i64 n.o,.int .i64 0,.int .i64 0,.int .i64 0,.int .i64 n.q,.int .i64 n.p,.int .i64 0,.int .i64 0,.int .i64 0,.bool false,.int .i64 n.z,.int .i64 n.t]:Value) = .agg (rec.rc n.rc))) Tryz.func129 (by kernel_rfl)
 (fun g0=>fun g1=>rfl)
theorem q8f (o:Or) (n:order.Nt)  (ho:o.fine) (hn:frame.jh n.z∧frame.jh n.t∧frame.jh n.o∧frame.jh n.q∧frame.jh n.p) (w:World):Calls Tryz.prog 107 #[.agg (order.oc o),.agg (order.nc n)] w fun e w'=>e = .returned (.tuple #[.agg (order.oc (order.take o n).1),.int .i64 (order.take o n).2])∧Below w.heap.size w w' :=
 uw (fn:=Tryz.f107) (r:=.tuple #[.agg (order.oc (order.take o n).1),.int .i64 (order.take o n).2]) (t:=.cs (order.right o) (.k (.s (.k .z) (.k (.c (.agg (rec.rc n.rc)) (.cs (order.Lh n) (.cs (order.can o n) (.c (.agg (order.oc (order.told o n))) .z) .z) .z))))) (.k (.k .z))) (X :=
 let k1:Array Value:=#[.agg (order.oc (order.take o n).1),.int .i64 (order.take o n).2];let k0:=(.tuple #[.agg (order.oc o),.int .i64 1]:Value) = .tuple k1;let k2:=order.Lh n;let k3:=order.right o;let k4:=order.can o n;let k5:=order.oc (order.told o n);let k6:Array Value:=#[.agg (order.oc o),.agg (order.nc n)]; ∀ g0:Nat,∀ g1:Nat,∀ g2:Nat,iq Tryz.prog w [] 67 #[.agg (order.oc o)] (.bool k3)∧(k3=true→((!decide (n.o=o.i))=true→k0)∧((!decide (n.o=o.i))=false→iq Tryz.prog w [] 129 #[.agg (order.nc n)] (.agg (rec.rc n.rc))∧iq Tryz.prog w [] 73 #[.agg (rec.rc n.rc)] (.bool k2)∧(k2=true→iq Tryz.prog w [] 130 k6 (.bool k4)∧(k4=true→iq Tryz.prog w [] 131 k6 (.agg k5)∧((.tuple #[.agg k5,.int .i64 0]:Value) = .tuple k1))∧(k4=false→((.tuple #[.agg (order.oc o),.int .i64 8]:Value) = .tuple k1)))∧(k2=false→k0)))∧(k3=false→k0)) Tryz.func107 (by kernel_rfl)
 (fun g0=>fun g1=>fun g2=>⟨gives (qhx o),fun h1=>⟨fun h2=>have h2:¬ n.o=o.i:=(by simpa using h2)
(by rw [qs1 (.inr (.inr h2))]<;>rfl),
 fun h2=>have h2:n.o=o.i:=(by simpa using h2)
⟨gives (q2n n),⟨qxs (q5s hn),fun h3=>⟨gives (q9y o n (q8b ho h1)),fun h4=>⟨gives (q8e o n (order.q5r h1 h3 h4 ho)),(by rw [order.qs0 h1 h3 h2,if_pos h4]<;>rfl)⟩,
 fun h4=>(by rw [order.qs0 h1 h3 h2,if_neg (by rw [h4];decide)]<;>rfl)⟩,
 fun h3=>(by rw [qs1 (.inr (.inl h3))]<;>rfl)⟩⟩⟩,
 fun h1=>(by rw [qs1 (.inl h1)]<;>rfl)⟩)
theorem q5w (r:Rc)  (hr:r.fine) (w:World):Calls Tryz.prog 100 #[.agg (rec.rc r)] w fun e w'=>e = .returned (.tuple #[.agg (order.oc (order.jl r).1),.int .i64 (order.jl r).2])∧Below w.heap.size w w' :=
 uw (fn:=Tryz.f100) (r:=.tuple #[.agg (order.oc (order.jl r).1),.int .i64 (order.jl r).2]) (t:=.s (.k .z) (.k (.cs (rec.right r) .z .z))) (X :=
 let k1:Array Value:=#[.agg (order.oc (order.jl r).1),.int .i64 (order.jl r).2];let k0:=(.tuple #[.agg #[.int .i64 0,.int .i64 0,.int .i64 0,.int .i64 0,.int .i64 0,.int .i64 0,.int .i64 0,.int .i64 0,.int .i64 0,.int .i64 0,.int .i64 0,.bool false],.int .i64 1]:Value) = .tuple k1; ∀ g0:Nat,∀ g1:Nat,((!decide (r.k=1))=true→k0)∧((!decide (r.k=1))=false→iq Tryz.prog w [] 73 #[.agg (rec.rc r)] (.bool (rec.right r))∧((rec.right r)=true→((.tuple #[.agg #[.int .i64 r.o,.int .i64 r.a,.int .i64 r.y,.int .i64 r.d,.int .i64 r.q,.int .i64 r.p,.int .i64 0,.int .i64 1,.int .i64 0,.int .i64 0,.int .i64 0,.bool false],.int .i64 0]:Value) = .tuple k1))∧((rec.right r)=false→k0))) Tryz.func100 (by kernel_rfl)
 (fun g0=>fun g1=>⟨fun h1=>have h1:¬ r.k=1:=(by simpa using h1)
(by rw [qs2 (fun h=>h1 h.1)]<;>rfl),
 fun h1=>have h1:r.k=1:=(by simpa using h1)
⟨qxs hr,fun h2=>(by rw [qzr ⟨h1,h2⟩]<;>rfl),
 fun h2=>(by rw [qs2 (fun h=>by have:=h.2;rw [h2] at this;cases this)]<;>rfl)⟩⟩)
theorem q9z (o:Or)  (w:World):Calls Tryz.prog 106 #[.agg (order.oc o)] w fun e w'=>e = .returned (.tuple #[.agg (order.oc (order.stop o).1),.int .i64 (order.stop o).2])∧Below w.heap.size w w' :=
 uw (fn:=Tryz.f106) (r:=.tuple #[.agg (order.oc (order.stop o).1),.int .i64 (order.stop o).2]) (t:=.cs (order.right o) (.s (.k .z) (.k (.s .z .z))) .z) (X :=
 let k0:Array Value:=#[.agg (order.oc (order.stop o).1),.int .i64 (order.stop o).2];let k1:=(.tuple #[.agg (order.oc o),.int .i64 8]:Value) = .tuple k0;let k2:=order.right o; ∀ g0:Nat,∀ g1:Nat,iq Tryz.prog w [] 67 #[.agg (order.oc o)] (.bool k2)∧(k2=true→((decide (o.h=3))=true→k1)∧((decide (o.h=3))=false→(o.g=true→k1)∧(o.g=false→((.tuple #[.agg #[.int .i64 o.i,.int .i64 o.a,.int .i64 o.y,.int .i64 o.d,.int .i64 o.q,.int .i64 o.p,.int .i64 o.f,.int .i64 o.h,.int .i64 o.m,.int .i64 o.r,.int .i64 o.v,.bool true],.int .i64 0]:Value) = .tuple k0))))∧(k2=false→((.tuple #[.agg (order.oc o),.int .i64 1]:Value) = .tuple k0))) Tryz.func106 (by kernel_rfl)
 (fun g0=>fun g1=>⟨gives (qhx o),fun h1=>⟨fun h2=>have h2:o.h=3:=(by simpa using h2)
(by unfold order.stop;simp [h1,h2];try rfl),
 fun h2=>have h2:¬ o.h=3:=(by simpa using h2)
⟨fun h3=>(by unfold order.stop;simp [h1,h3,h2];try rfl),
 fun h3=>(by unfold order.stop;simp [h1,h3,h2];try rfl)⟩⟩,
 fun h1=>(by unfold order.stop;simp [h1];try rfl)⟩)
theorem q2o (o:Or) (x z:Int)  (ho:o.fine) (w:World):Calls Tryz.prog 104 #[.agg (order.oc o),.int .i64 x,.int .i64 z] w fun e w'=>e = .returned (.tuple #[.agg (order.oc (order.change o x z).1),.int .i64 (order.change o x z).2])∧Below w.heap.size w w' :=
 uw (fn:=Tryz.f104) (r:=.tuple #[.agg (order.oc (order.change o x z).1),.int .i64 (order.change o x z).2]) (t:=.c (.tuple #[.int .i64 (mg o.v 1),.int .i64 (oh o.v 1)]) (.cs (order.right o) (.k (.s (.k (.k .z)) (.k (.s (.k .z) (.k (.s .z (.s (.k (.k .z)) (.k (.cs (order.pend o.m) (.k .z) (.k (.s .z .z))))))))))) (.k (.k (.k .z))))) (X :=
 let k0:Array Value:=#[.agg (order.oc (order.change o x z).1),.int .i64 (order.change o x z).2];let k1:=(.tuple #[.agg (order.oc o),.int .i64 1]:Value) = .tuple k0;let k2:=(.tuple #[.agg (order.oc o),.int .i64 8]:Value) = .tuple k0;let k3:=order.pend o.m;let k4:=order.right o;let k5 := !decide ((oh o.v 1)=0); ∀ g0:Nat,∀ g1:Nat,iq Tryz.prog w [] 95 #[.int .i64 o.v,.int .i64 1] (.tuple #[.int .i64 (mg o.v 1),.int .i64 (oh o.v 1)])∧iq Tryz.prog w [] 67 #[.agg (order.oc o)] (.bool k4)∧(k4=true→((decide (x < 1))=true→k1)∧((decide (x < 1))=false→((decide (z < 1))=true→k1)∧((decide (z < 1))=false→(k5=true→k1)∧(k5=false→((!decide (o.h=2))=true→k2)∧((!decide (o.h=2))=false→iq Tryz.prog w [] 114 #[.agg (order.oc o)] (.bool k3)∧(k3=true→k2)∧(k3=false→(o.g=true→k2)∧(o.g=false→((.tuple #[.agg #[.int .i64 o.i,.int .i64 o.a,.int .i64 o.y,.int .i64 o.d,.int .i64 o.q,.int .i64 o.p,.int .i64 o.f,.int .i64 o.h,.int .i64 x,.int .i64 z,.int .i64 (mg o.v 1),.bool o.g],.int .i64 0]:Value) = .tuple k0))))))))∧(k4=false→k1)) Tryz.func104 (by kernel_rfl)
 (fun g0=>fun g1=>⟨Rn ho.2.2.2.2.2.2.2.2.2.2 (by unfold jq;omega),⟨gives (qhx o),fun h1=>⟨fun h2=>have h2:x < 1:=(by simpa using h2)
(by rw [qle (.inr (.inl h2))]<;>rfl),
 fun h2=>have h2:¬ x < 1:=(by simpa using h2)
⟨fun h3=>have h3:z < 1:=(by simpa using h3)
(by rw [qle (.inr (.inr (.inl h3)))]<;>rfl),
 fun h3=>have h3:¬ z < 1:=(by simpa using h3)
⟨fun h4=>have h4:¬ (oh o.v 1)=0:=(by simpa using h4)
(by rw [qle (.inr (.inr (.inr (q8c ho h4))))]<;>rfl),
 fun h4=>have h4:(oh o.v 1)=0:=(by simpa using h4)
⟨fun h5=>have h5:¬ o.h=2:=(by simpa using h5)
(by rw [qn5 (fun e=>by rcases e with e | e | e | e;exact absurd e (by rw [h1];decide);omega;omega;exact qo5 h4 e) (.inl h5)]<;>rfl),
 fun h5=>have h5:o.h=2:=(by simpa using h5)
⟨gives (qmc o),fun h6=>(by rw [qn5 (fun e=>by rcases e with e | e | e | e;exact absurd e (by rw [h1];decide);omega;omega;exact qo5 h4 e) (.inr (.inl (of_decide_eq_true h6)))]<;>rfl),
 fun h6=>⟨fun h7=>(by rw [qn5 (fun e=>by rcases e with e | e | e | e;exact absurd e (by rw [h1];decide);omega;omega;exact qo5 h4 e) (.inr (.inr h7))]<;>rfl),
 fun h7=>(by rw [q8d h4,q2k (fun e=>by rcases e with e | e | e | e;exact absurd e (by rw [h1];decide);omega;omega;exact qo5 h4 e) h5 (Decidable.not_not.1 (of_decide_eq_false h6)) h7]<;>rfl)⟩⟩⟩⟩⟩⟩,
 fun h1=>(by rw [qle (.inl h1)]<;>rfl)⟩⟩)
theorem q8g (o:Or)  (ho:o.fine) (w:World):Calls Tryz.prog 117 #[.agg (order.oc o)] w fun e w'=>e = .returned (.int .i64 (open_ o))∧Below w.heap.size w w' :=
 uw (fn:=Tryz.f117) (r:=.int .i64 (open_ o)) (t:=.cs (order.right o) (.k (.s .z (.o [] (.c (.int .i64 (max o.q o.m)) (.e (.int .i64 ((max o.q o.m) - o.f)) .z))))) (.k .z)) (X :=
 let k0:=(.int .i64 0:Value) = .int .i64 (open_ o);let k1:=(max o.q o.m) - o.f;let k2:=order.right o; ∀ g0:Nat,iq Tryz.prog w [] 67 #[.agg (order.oc o)] (.bool k2)∧(k2=true→((decide (o.h=3))=true→k0)∧((decide (o.h=3))=false→iq Tryz.prog w [] 134 #[.int .i64 o.q,.int .i64 o.m] (.int .i64 (max o.q o.m))∧(.int .i64 (IntKind.i64.wrap k1):Value) = .int .i64 k1∧((.int .i64 k1:Value) = .int .i64 (open_ o))))∧(k2=false→k0)) Tryz.func117 (by kernel_rfl)
 (fun g0=>⟨gives (qhx o),fun h1=>⟨fun h2=>have h2:o.h=3:=(by simpa using h2)
(by rw [qo6 (.inr h2)]),
 fun h2=>have h2:¬ o.h=3:=(by simpa using h2)
⟨q4l ho.2.2.2.2.1 ho.2.2.2.2.2.2.2.2.1,⟨lg rfl (by have:=N7 ho h1;omega) (by have:=N7 ho h1;omega),(by rw [qs3 h1 h2])⟩⟩⟩,
 fun h1=>(by rw [qo6 (.inl h1)])⟩)
theorem q5x (o:Or)  (ho:o.fine) (w:World):Calls Tryz.prog 116 #[.agg (order.oc o)] w fun e w'=>e = .returned (.tuple #[.int .i64 (worth o).1,.int .i64 (worth o).2])∧Below w.heap.size w w' :=
 uw (fn:=Tryz.f116) (r:=.tuple #[.int .i64 (worth o).1,.int .i64 (worth o).2]) (t:=.cs (order.right o) (.s .z (.e (.int .i64 (o.q - o.f)) (.c (.tuple #[.int .i64 (D6 (o.q - o.f) o.p),.int .i64 (zf (o.q - o.f) o.p)]) (.s (.k .z) (.k (.s .z (.e (.int .i64 (o.m - o.f)) (.c (.tuple #[.int .i64 (D6 (o.m - o.f) o.r),.int .i64 (zf (o.m - o.f) o.r)]) (.s .z (.c (.int .i64 (max (D6 (o.q - o.f) o.p) (D6 (o.m - o.f) o.r))) .z)))))))))) .z) (X :=
 let k0:Array Value:=#[.int .i64 (worth o).1,.int .i64 (worth o).2];let k4:=D6 (o.q - o.f) o.p;let k5:=zf (o.q - o.f) o.p;let k1:Array Value:=#[.int .i64 k4,.int .i64 k5];let k2:=D6 (o.m - o.f) o.r;let k3:=zf (o.m - o.f) o.r;let k6:=(.tuple k1:Value) = .tuple k0;let k7:=order.right o; ∀ g0:Nat,iq Tryz.prog w [] 67 #[.agg (order.oc o)] (.bool k7)∧(k7=true→((decide (o.h=3))=true→((.tuple #[.int .i64 0,.int .i64 0]:Value) = .tuple k0))∧((decide (o.h=3))=false→(.int .i64 (IntKind.i64.wrap (o.q - o.f)):Value) = .int .i64 (o.q - o.f)∧iq Tryz.prog w [] 133 #[.int .i64 (o.q - o.f),.int .i64 o.p] (.tuple k1)∧((!decide (k5=0))=true→k6)∧((!decide (k5=0))=false→((decide (o.m≤o.f))=true→k6)∧((decide (o.m≤o.f))=false→(.int .i64 (IntKind.i64.wrap (o.m - o.f)):Value) = .int .i64 (o.m - o.f)∧iq Tryz.prog w [] 133 #[.int .i64 (o.m - o.f),.int .i64 o.r] (.tuple #[.int .i64 k2,.int .i64 k3])∧((!decide (k3=0))=true→((.tuple #[.int .i64 0,.int .i64 k3]:Value) = .tuple k0))∧((!decide (k3=0))=false→iq Tryz.prog w [] 134 #[.int .i64 k4,.int .i64 k2] (.int .i64 (max k4 k2))∧((.tuple #[.int .i64 (max k4 k2),.int .i64 0]:Value) = .tuple k0))))))∧(k7=false→((.tuple #[.int .i64 0,.int .i64 1]:Value) = .tuple k0))) Tryz.func116 (by kernel_rfl)
 (fun g0=>⟨gives (qhx o),fun h1=>⟨fun h2=>have h2:o.h=3:=(by simpa using h2)
(by rw [qvi h1 h2]),
 fun h2=>have h2:¬ o.h=3:=(by simpa using h2)
⟨lg rfl (by have:=N7 ho h1;omega) (by have:=N7 ho h1;omega),⟨q4k (Vs ho h1).1 ho.2.2.2.2.2.1,⟨fun h3=>have h3:¬ (zf (o.q - o.f) o.p)=0:=(by simpa using h3)
(by rw [qvf h3,qvj h1 h2 h3];exact congrArg (fun x=>Value.tuple #[.int .i64 x,.int .i64 3]) (q5t h3)),
 fun h3=>have h3:(zf (o.q - o.f) o.p)=0:=(by simpa using h3)
⟨fun h4=>have h4:¬ o.f < o.m:=(by simpa using h4)
(by rw [qvk h1 h2 h3 h4,h3]),
 fun h4=>have h4:o.f < o.m:=(by simpa using h4)
⟨lg rfl (by have:=N7 ho h1;omega) (by have:=N7 ho h1;omega),⟨q4k (Vs ho h1).2 ho.2.2.2.2.2.2.2.2.2.1,⟨fun h5=>have h5:¬ (zf (o.m - o.f) o.r)=0:=(by simpa using h5)
(by rw [qvf h5,qvl h1 h2 h3 h4 h5]),
 fun h5=>have h5:(zf (o.m - o.f) o.r)=0:=(by simpa using h5)
⟨q4l (qvd _ _) (qvd _ _),(by rw [qp0 h1 h2 h3 h4 h5])⟩⟩⟩⟩⟩⟩⟩⟩⟩,
 fun h1=>(by rw [qvh h1])⟩)
end Go.Proofs.YtbbjlfbemibfcaaGreat.book
