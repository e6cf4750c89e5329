/-
  RefV
-/
import Derived.Test.YtcpahggkioagkaaMvf38
import Derived.Test.YtcpahggkioagkaaMvf23
import Derived.Test.YtcpahggkioagkaaMvf42
import Derived.Test.YtcpahggkioagkaaMvf43
import Derived.Test.YtcpahggkioagkaaMvf44
set_option linter.unusedVariables false
set_option linter.unusedSimpArgs false
namespace Go.Proofs.Ytcpahggkioagkaa.book
open Go.RowKit Go.Proofs.Ytcpahggkioagkaa
open Go.Proofs.Ytcpahggkioagkaa.order (Or open_ worth oz)
open Go.Proofs.Ytcpahggkioagkaa.cell (Ce Ex)
open Go.Proofs.Ytcpahggkioagkaa.rec (Rc)
set_option maxRecDepth 20000
variable {w0:World} {D:List Fact}
theorem w_rec (r:Rc) (hf:r.fine) (w:World):Calls Try.prog 30 #[.agg (rec.rc r)] w fun e w'=>e = .returned (.bool (rec.right r))∧Below w.heap.size w w':=rec.rright_is r.k r.o r.a r.y r.d r.q r.p r.l r.s r.n r.on r.z r.t hf rfl w
def orc (o:Or):Rc:=⟨1,o.i,o.a,o.y,o.d,o.q,o.p,0,0,0,false,0,0⟩
theorem orc_fine {o:Or} (h:o.fine):(orc o).fine:=by
 obtain ⟨h1,h2,h3,h4,h5,h6,_⟩:=h
 exact ⟨rec.in1,h1,h2,h3,h4,h5,h6,rec.in0,rec.in0,rec.in0,rec.in0,rec.in0⟩
theorem rec_new9 (i a y d q p:Int):rec.right ⟨1,i,a,y,d,q,p,0,0,0,false,0,0⟩=true ↔ (1≤i∧i≤1000000000000∧0≤a∧a < 8∧0≤y∧y < 8∧1≤d∧d≤2∧1≤q∧1≤p):=by
 unfold rec.right rec.may
 simp [rec.rd,rec.nums,rec.mayOrder,rec.mayAcc,rec.mayAsk]
 omega
theorem orc_right {o:Or} (h:order.Rightly o):rec.right (orc o)=true:=(rec_new9 ..).2 (by unfold order.Rightly at h;omega)
theorem orc_rightly {o:Or} (h:rec.right (orc o)=true) (h2:(1≤o.i∧o.i≤1000000000000∧0≤o.a∧o.a < 8∧0≤o.y∧o.y < 8∧1≤o.d∧o.d≤2∧1≤o.q∧1≤o.p)→order.Rightly o):order.Rightly o:=h2 ((rec_new9 ..).1 h)
theorem w_yes {o:Or} (h:order.Rightly o):(.bool true:Value) = .bool (order.right o):=by rw [order.right_iff.2 h]
theorem w_no {o:Or} (h:¬ order.Rightly o):(.bool false:Value) = .bool (order.right o):=by rw [order.right_no.2 h]
section
variable {o:Or} {n:order.Nt} (h1:order.right o=true) (h2:order.noteOk n=true) (h3:n.o=o.i)
include h1 h2 h3
end
theorem w_oright (o:Or)  (ho:o.fine) (w:World):Calls Try.prog 32 #[.agg (order.oc o)] w fun e w'=>e = .returned (.bool (order.right o))∧Below w.heap.size w w' :=
 calls_by (fn:=Try.f32) (r:=.bool (order.right o)) (t:=.cs (rec.right (orc o)) (.s (.k (.k .z)) (.k (.s (.k .z) (.k (.s .z (.s (.k (.s (.k (.k (.s (.k (.k (.s (.k (.s .z .z)) (.k .z)))) (.s (.s .z .z) (.s (.k (.k .z)) (.k .z)))))) (.k (.k (.m true (.k .z)))))) (.k (.k (.k (.s (.k .z) (.k (.s .z (.s (.k (.k (.k .z))) (.s (.s .z .z) (.s (.k (.k .z)) (.k .z)))))))))))))))) .z) (X :=
 let k0:=(.bool false:Value) = .bool (order.right o);let k1:=(.bool true:Value) = .bool (order.right o);let k2 := !decide (o.f=o.q);let k3:=decide (o.h=1);let k4:=decide (o.h=2);let k5:=decide (o.h=3);let k6:=rec.right (orc o);let k7:=decide (o.m < 1); ∀ g0:Nat,Gives Try.prog w [] 30 #[.agg #[.int .i64 1,.int .i64 o.i,.int .i64 o.a,.int .i64 o.y,.int .i64 o.d,.int .i64 o.q,.int .i64 o.p,.int .i64 0,.int .i64 0,.int .i64 0,.bool false,.int .i64 0,.int .i64 0]] (.bool k6)∧(k6=true→((decide (o.f < 0))=true→k0)∧((decide (o.f < 0))=false→((decide (o.f > o.q))=true→k0)∧((decide (o.f > o.q))=false→((decide (o.v < 0))=true→k0)∧((decide (o.v < 0))=false→((decide (o.m=0))=true→((decide (o.r=0))=true→(k3=true→((decide (o.f=0))=true→((decide (o.v=0))=true→k1)∧((decide (o.v=0))=false→k0))∧((decide (o.f=0))=false→k0))∧(k3=false→(k4=true→(k2=true→k1)∧(k2=false→k0))∧(k4=false→(k5=true→k1)∧(k5=false→k0))))∧((decide (o.r=0))=false→k7=true∧k0))∧((decide (o.m=0))=false→(k7=true→k0)∧(k7=false→((decide (o.r < 1))=true→k0)∧((decide (o.r < 1))=false→(k3=true→k0)∧(k3=false→(k4=true→(k2=true→k1)∧(k2=false→k0))∧(k4=false→(k5=true→k0)∧(k5=false→k0))))))))))∧(k6=false→k0)) Try.func32 (by kernel_rfl)
 (fun g0=>⟨gives (w_rec (orc o) (orc_fine ho)),fun h1=>⟨fun h2=>have h2:o.f < 0:=(by simpa using h2)
(w_no (fun h=>by unfold order.Rightly at h;omega)),
 fun h2=>have h2:¬ o.f < 0:=(by simpa using h2)
⟨fun h3=>have h3:o.q < o.f:=(by simpa using h3)
(w_no (fun h=>by unfold order.Rightly at h;omega)),
 fun h3=>have h3:¬ o.q < o.f:=(by simpa using h3)
⟨fun h4=>have h4:o.v < 0:=(by simpa using h4)
(w_no (fun h=>by unfold order.Rightly at h;omega)),
 fun h4=>have h4:¬ o.v < 0:=(by simpa using h4)
⟨fun h5=>have h5:o.m=0:=(by simpa using h5)
⟨fun h6=>have h6:o.r=0:=(by simpa using h6)
⟨fun h7=>have h7:o.h=1:=(by simpa using h7)
⟨fun h8=>have h8:o.f=0:=(by simpa using h8)
⟨fun h9=>have h9:o.v=0:=(by simpa using h9)
(w_yes (orc_rightly h1 (by unfold order.Rightly;omega))),
 fun h9=>have h9:¬ o.v=0:=(by simpa using h9)
(w_no (fun h=>by unfold order.Rightly at h;omega))⟩,
 fun h8=>have h8:¬ o.f=0:=(by simpa using h8)
(w_no (fun h=>by unfold order.Rightly at h;omega))⟩,
 fun h7=>have h7:¬ o.h=1:=(by simpa using h7)
⟨fun h10=>have h10:o.h=2:=(by simpa using h10)
⟨fun h11=>have h11:¬ o.f=o.q:=(by simpa using h11)
(w_yes (orc_rightly h1 (by unfold order.Rightly;omega))),
 fun h11=>have h11:o.f=o.q:=(by simpa using h11)
(w_no (fun h=>by unfold order.Rightly at h;omega))⟩,
 fun h10=>have h10:¬ o.h=2:=(by simpa using h10)
⟨fun h12=>have h12:o.h=3:=(by simpa using h12)
(w_yes (orc_rightly h1 (by unfold order.Rightly;omega))),
 fun h12=>have h12:¬ o.h=3:=(by simpa using h12)
(w_no (fun h=>by unfold order.Rightly at h;omega))⟩⟩⟩,
 fun h6=>have h6:¬ o.r=0:=(by simpa using h6)
⟨by simp only [dq];omega,(w_no (fun h=>by unfold order.Rightly at h;omega))⟩⟩,
 fun h5=>have h5:¬ o.m=0:=(by simpa using h5)
⟨fun h13=>have h13:o.m < 1:=(by simpa using h13)
(w_no (fun h=>by unfold order.Rightly at h;omega)),
 fun h13=>have h13:¬ o.m < 1:=(by simpa using h13)
⟨fun h14=>have h14:o.r < 1:=(by simpa using h14)
(w_no (fun h=>by unfold order.Rightly at h;omega)),
 fun h14=>have h14:¬ o.r < 1:=(by simpa using h14)
⟨fun h15=>have h15:o.h=1:=(by simpa using h15)
(w_no (fun h=>by unfold order.Rightly at h;omega)),
 fun h15=>have h15:¬ o.h=1:=(by simpa using h15)
⟨fun h16=>have h16:o.h=2:=(by simpa using h16)
⟨fun h17=>have h17:¬ o.f=o.q:=(by simpa using h17)
(w_yes (orc_rightly h1 (by unfold order.Rightly;omega))),
 fun h17=>have h17:o.f=o.q:=(by simpa using h17)
(w_no (fun h=>by unfold order.Rightly at h;omega))⟩,
 fun h16=>have h16:¬ o.h=2:=(by simpa using h16)
⟨fun h18=>have h18:o.h=3:=(by simpa using h18)
(w_no (fun h=>by unfold order.Rightly at h;omega)),
 fun h18=>have h18:¬ o.h=3:=(by simpa using h18)
(w_no (fun h=>by unfold order.Rightly at h;omega))⟩⟩⟩⟩⟩⟩⟩⟩⟩,
 fun h1=>(w_no (fun h=>(by have:=orc_right h;rw [h1] at this;cases this)))⟩)
end Go.Proofs.Ytcpahggkioagkaa.book
